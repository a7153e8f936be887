"""A console: a yard that is asked and told by lines of words."""

from scooprow.connecting import connect, fewest
from scooprow.errors import ScoopError
from scooprow.rows import Row
from scooprow.texts import counts_text, integer_in
from scooprow.yards import Yard

UNKNOWN = "unknown"


def _pair_in(text):
    """The pair that a text INDEX:NUMBER is, None if it is none."""
    words = text.split(":")
    if len(words) != 2:
        return None
    index, number = [integer_in(word) for word in words]
    if index is None or number is None:
        return None
    return (index, number)


def _pairs_in(word):
    """The list of the pairs that a word tells, None if it is of another form."""
    if word == "-":
        return []
    pairs = [_pair_in(text) for text in word.split(",")]
    if any([pair is None for pair in pairs]):
        return None
    return pairs


def _told_pairs(pairs):
    """The word that tells these pairs."""
    if not pairs:
        return "-"
    return ",".join([f"{first}:{second}" for first, second in pairs])


def _told_connection(answer):
    """The words for an answer of connect."""
    if answer[0] == "sweeps":
        return "sweeps " + counts_text(answer[1])
    return " ".join([str(part) for part in answer])


class Console:
    """Answers lines of words about one yard."""

    def __init__(self):
        self._yard = Yard()

    def answer(self, line):
        """The answer to a line, any value."""
        if not isinstance(line, str):
            return UNKNOWN
        words = line.split(" ")
        if "" in words:
            return UNKNOWN
        try:
            return self._answer_to(words)
        except ScoopError as error:
            return "error " + type(error).__name__

    def _answer_to(self, words):
        """The answer to a line of these words, none of them empty."""
        match words:
            case ["put", name, items]:
                return self._put(name, items, "-")
            case ["put", name, items, capacities]:
                return self._put(name, items, capacities)
            case ["drop", name]:
                return self._do(("drop", name))
            case ["add", name, index, amount]:
                return self._do_with("add", name, [index, amount])
            case ["shift", name, index]:
                return self._do_with("shift", name, [index])
            case ["go", name, capacity, number]:
                return self._go(name, capacity, number)
            case ["undo"]:
                return "ok" if self._yard.undo() else "nothing"
            case ["redo"]:
                return "ok" if self._yard.redo() else "nothing"
            case ["names"]:
                return " ".join(self._yard.names()) or "-"
            case ["row", name]:
                return _told_pairs(self._yard.row(name).contents)
            case ["trains", name]:
                return _told_pairs(self._yard.trains_of(name))
            case ["connect", name, other]:
                return _told_connection(connect(self._yard.row(name), self._yard.row(other)))
            case ["fewest", name, other]:
                return _told_connection(fewest(self._yard.row(name), self._yard.row(other)))
            case _:
                return UNKNOWN

    def _do(self, operation):
        self._yard.do(operation)
        return "ok"

    def _do_with(self, word, name, numbers):
        """Do the operation of this word with these numbers, if they are of the right form."""
        integers = [integer_in(number) for number in numbers]
        if any([integer is None for integer in integers]):
            return UNKNOWN
        return self._do((word, name) + tuple(integers))

    def _go(self, name, capacity, number):
        pair = (integer_in(capacity), integer_in(number))
        if pair[0] is None or pair[1] is None:
            return UNKNOWN
        return self._do(("go", name, (pair,)))

    def _put(self, name, items, capacities):
        pairs, wide = _pairs_in(items), _pairs_in(capacities)
        if pairs is None or wide is None:
            return UNKNOWN
        return self._do(("put", name, Row(pairs, wide)))
