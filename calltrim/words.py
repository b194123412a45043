"""Words: the name of an operation or test with the cells that it reads and writes."""

from calltrim.errors import InvalidWord
from calltrim.kinds import is_tuple_below

LETTERS = "abcdefghijklmnopqrstuvwxyz"
CELLS = ("0", "1", "2", "3", "4", "5", "6", "7", "8", "9", "10", "11", "12", "13", "14", "15")
MOST_LETTERS = 4
MOST_READS = 3
MOST_WRITES = 1


def is_name(value):
    if not isinstance(value, str) or not 1 <= len(value) <= MOST_LETTERS:
        return False
    return all([letter in LETTERS for letter in value])


def is_cells(value, most):
    """Whether value is a tuple of at most so many cells."""
    return is_tuple_below(value, len(CELLS)) and len(value) <= most


def parts_or_none(value):
    if not isinstance(value, str):
        return None
    head, sign, written = value.partition(">")
    name, *reads = head.split(".")
    writes = [written] if sign else []
    if not is_name(name) or len(reads) > MOST_READS:
        return None
    if any([cell not in CELLS for cell in reads + writes]):
        return None
    return name, tuple([int(cell) for cell in reads]), tuple([int(cell) for cell in writes])


def is_word(value):
    return parts_or_none(value) is not None


def word_parts(word):
    parts = parts_or_none(word)
    if parts is None:
        raise InvalidWord(word)
    return parts


def word_of(name, reads, writes):
    if not is_name(name) or not is_cells(reads, MOST_READS) or not is_cells(writes, MOST_WRITES):
        raise InvalidWord((name, reads, writes))
    return name + "".join([f".{cell}" for cell in reads]) + "".join([f">{cell}" for cell in writes])
