"""Scooprow: carriers that sweep a row of boxes, in closed form."""
