"""Runs of codes on cells, with a stack of values that lines of their own put there and take off."""

from calltrim.lines import leads_of
from calltrim.planlines import POP, PUSH
from calltrim.tellings import told_by
from calltrim.walks import Walk
from calltrim.words import CELLS, word_parts


def value_deed(line):
    """PUSH or POP if the event line only moves a value; None if it is an event of the run."""
    name, reads, writes = word_parts(line[1])
    if line[0] == "do" and name == PUSH and len(reads) == 1 and not writes:
        return PUSH
    return POP if line[0] == "do" and name == POP and not reads and writes else None


class CellWalk:
    """Where a run of a code stands, its cells, which hold 0 at first, and the stack of values."""

    def __init__(self, code, place):
        self.walk = Walk(code, place)
        self.cells = [0] * len(CELLS)
        self.pile = []

    def event_line(self):
        """The line of the event to which the run goes on, behind all that only moves values; None if it returns."""
        while self.walk.place is not None:
            line = self.walk.code.lines[self.walk.place]
            deed = value_deed(line)
            if deed is None:
                return line
            self.move_value(deed, line)
            self.walk.run_by((0,))
        return None

    def move_value(self, deed, line):
        _, reads, writes = word_parts(line[1])
        if deed == PUSH:
            self.pile.append(self.cells[reads[0]])
        else:
            self.cells[writes[0]] = self.pile.pop() if self.pile else 0

    def told_ahead(self, line):
        """What is told of the event but for its answer."""
        name, reads, _ = word_parts(line[1])
        return name, len(leads_of(line, 0)), tuple([self.cells[cell] for cell in reads])

    def go_on(self, line, move, number):
        for cell in word_parts(line[1])[2]:
            self.cells[cell] = number
        self.walk.run_by((move,))


def told_on_cells(code, place, moves):
    """What the run from place by the moves tells."""
    return told_by(CellWalk(code, place), moves)
