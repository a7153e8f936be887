"""Logs: operations with the rows after each of them, and a judge of logs."""

from scooprow.errors import At, ScoopError
from scooprow.rows import is_same
from scooprow.yards import Yard


def _rows_of(yard):
    """The tuple of the pairs (name, contents) of all rows of a yard, ascending by name."""
    return tuple([(name, yard.row(name).contents) for name in yard.names()])


def entries(operations):
    """The list of the entries of a new yard that does these operations one by one."""
    if not isinstance(operations, (list, tuple)):
        raise At(0)
    yard = Yard()
    found = []
    for k, operation in enumerate(operations):
        try:
            yard.do(operation)
        except ScoopError:
            raise At(k) from None
        found.append((operation, _rows_of(yard)))
    return found


def _is_next(entry, yard):
    """Whether an entry is right; its operation is done in the yard if it is not refused."""
    if not isinstance(entry, tuple) or len(entry) != 2:
        return False
    try:
        yard.do(entry[0])
    except ScoopError:
        return False
    return is_same(entry[1], _rows_of(yard))


def first_wrong(log):
    """The index of the first wrong entry of a log, None if there is none."""
    if not isinstance(log, (list, tuple)):
        return 0
    yard = Yard()
    for k, entry in enumerate(log):
        if not _is_next(entry, yard):
            return k
    return None
