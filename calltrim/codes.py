"""Codes: programs of plain lines, and their edits."""

from calltrim.errors import Endless, InvalidCode, InvalidLine, InvalidNumber, TooLarge, TooLong, Undefined
from calltrim.kinds import is_number_below, is_tuple_below
from calltrim.lines import ends_well, is_event_line, leads_of, line_text, moved_line
from calltrim.norms import lengths_of, norms_of
from calltrim.words import is_word

MOST_LINES = 32
MOST_NORM = 32
MOST_LENGTH = 200
MOST_TARGETS = 4


def is_line(value, many):
    if not isinstance(value, tuple) or not value:
        return False
    if value[0] == "do":
        return len(value) == 2 and is_word(value[1])
    if value[0] == "ask":
        return len(value) == 3 and is_word(value[1]) and is_targets(value[2], many)
    if value[0] == "go" or value[0] == "call":
        return len(value) == 2 and is_number_below(value[1], many)
    return value[0] == "back" and len(value) == 1


def is_targets(value, many):
    return is_tuple_below(value, many) and 1 <= len(value) <= MOST_TARGETS


def first_wrong(lines):
    """The first place whose member is no line that may stand there; None if there is none."""
    last = len(lines) - 1
    for place in range(len(lines)):
        line = lines[place]
        if not is_line(line, len(lines)) or (place == last and not ends_well(line)):
            return place
    return None


def first_too_long(norms, lengths):
    """The first place whose norm or length is too great; None if there is none."""
    for place in range(len(norms)):
        if norms[place] > MOST_NORM or lengths[place] > MOST_LENGTH:
            return place
    return None


def is_lines(value):
    """Whether value is a tuple of lines that Code does not refuse."""
    if not isinstance(value, tuple) or not 1 <= len(value) <= MOST_LINES or first_wrong(value) is not None:
        return False
    norms = norms_of(value)
    return None not in norms and first_too_long(norms, lengths_of(value)) is None


def checked_lines(lines):
    if not isinstance(lines, (list, tuple)) or not 1 <= len(lines) <= MOST_LINES:
        raise InvalidCode(lines)
    wrong = first_wrong(lines)
    if wrong is not None:
        raise InvalidLine(lines[wrong])
    return tuple(lines)


def checked_norms(lines):
    norms = norms_of(lines)
    for place in range(len(lines)):
        if norms[place] is None:
            raise Endless(place)
    wrong = first_too_long(norms, lengths_of(lines))
    if wrong is not None:
        raise TooLong(wrong)
    return norms


class Code:
    """A program of 1 to 32 lines from each of which a run can return."""

    def __init__(self, lines):
        self.lines = checked_lines(lines)
        self.norms = checked_norms(self.lines)

    def __len__(self):
        return len(self.lines)

    def __eq__(self, other):
        return isinstance(other, Code) and self.lines == other.lines

    def __getitem__(self, place):
        if not is_number_below(place, len(self.lines)):
            raise InvalidNumber(place)
        return self.lines[place]

    def __iter__(self):
        raise TypeError("a code is not iterable")

    def __add__(self, other):
        if not isinstance(other, Code):
            return NotImplemented
        return joined(self, other)

    def __str__(self):
        return "\n".join([line_text(line) for line in self.lines])

    def leads(self, place):
        line = self[place]
        if not is_event_line(line):
            raise Undefined("event")
        return leads_of(line, place)

    def put(self, place, line):
        if not is_number_below(place, len(self.lines) + 1):
            raise InvalidNumber(place)
        if len(self.lines) == MOST_LINES:
            raise TooLarge(MOST_LINES + 1)
        lines = tuple([moved_line(old, place, 1) for old in self.lines])
        return Code(lines[:place] + (line,) + lines[place:])

    def take(self, place):
        if not is_number_below(place, len(self.lines)):
            raise InvalidNumber(place)
        lines = tuple([moved_line(old, place + 1, -1) for old in self.lines])
        return Code(lines[:place] + lines[place + 1:])

    def turn(self, place, line):
        if not is_number_below(place, len(self.lines)):
            raise InvalidNumber(place)
        return Code(self.lines[:place] + (line,) + self.lines[place + 1:])


def joined(one, other):
    many = len(one.lines) + len(other.lines)
    if many > MOST_LINES:
        raise TooLarge(many)
    return Code(one.lines + tuple([moved_line(line, 0, len(one.lines)) for line in other.lines]))
