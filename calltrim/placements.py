"""Placements of the slots of plans on cells, saves at calls, and runs on cells."""

from calltrim.activations import told_with
from calltrim.cellruns import told_on_cells
from calltrim.codes import Code, MOST_LINES
from calltrim.errors import InvalidPlacement, InvalidSaves, TooLarge
from calltrim.flows import all_wanted, is_wanted_form, line_at
from calltrim.kinds import is_ascending, is_number_below
from calltrim.lines import is_event_line, led_line
from calltrim.planlines import POP, PUSH, flat_line
from calltrim.runs import check_moves
from calltrim.words import CELLS, word_of


def are_cells(plan, f, value):
    """Whether value has a cell for each slot of procedure f."""
    if not isinstance(value, tuple) or len(value) != plan.procedures[f][0]:
        return False
    return all([is_number_below(cell, len(CELLS)) and cell >= plan.commons for cell in value])


def is_placement(plan, value):
    if not isinstance(value, tuple) or len(value) != len(plan.procedures):
        return False
    return all([are_cells(plan, f, value[f]) for f in range(len(value))])


def is_save_by(plan, wanted, value):
    """Whether value is a triple of a call line and a slot that is wanted behind it; wanted is a dict of triples."""
    if not is_wanted_form(plan, value) or line_at(plan, value[:2])[0] != "call":
        return False
    f, p, s = value
    return (f, p + 1, s) in wanted


def is_save(plan, value):
    return is_save_by(plan, all_wanted(plan), value)


def is_saves(plan, value):
    if not isinstance(value, tuple):
        return False
    wanted = all_wanted(plan)
    return all([is_save_by(plan, wanted, save) for save in value]) and is_ascending(value)


def check_placement(plan, placement):
    if not is_placement(plan, placement):
        raise InvalidPlacement(placement)


def check_saves(plan, saves):
    if not is_saves(plan, saves):
        raise InvalidSaves(saves)


def slots_saved(saves, place):
    """The slots that are saved at the call line at place, ascending."""
    return [save[2] for save in saves if save[:2] == place]


def cell_of(plan, placement, f, variable):
    """The cell of a variable of procedure f."""
    return variable if variable < plan.commons else placement[f][variable - plan.commons]


class SharedCells:
    """The memory of cells_run: cells that hold 0 at first, and what is kept of them at calls that wait."""

    def __init__(self, plan, placement, saves):
        self.plan = plan
        self.placement = placement
        self.saves = saves
        self.cells = [0] * len(CELLS)
        self.kept = []

    def called(self, place):
        cells = [self.placement[place[0]][slot] for slot in slots_saved(self.saves, place)]
        self.kept.append([(cell, self.cells[cell]) for cell in cells])

    def returned(self, place):
        for cell, content in self.kept.pop():
            self.cells[cell] = content

    def read(self, procedure, variable):
        return self.cells[cell_of(self.plan, self.placement, procedure, variable)]

    def write(self, procedure, variable, number):
        self.cells[cell_of(self.plan, self.placement, procedure, variable)] = number


def cells_run(plan, placement, saves, moves):
    check_placement(plan, placement)
    check_saves(plan, saves)
    check_moves(moves)
    return told_with(plan, SharedCells(plan, placement, saves), moves)


def worded_line(plan, placement, place):
    """The line at place as one of a code of all lines one behind the other, its word with cells."""
    f, _ = place
    line = line_at(plan, place)
    flat = flat_line(line, plan.starts[f], plan.starts)
    if not is_event_line(line):
        return flat
    reads = tuple([cell_of(plan, placement, f, variable) for variable in line[2]])
    written = line[3] if line[0] == "do" else ()
    writes = tuple([cell_of(plan, placement, f, variable) for variable in written])
    return (line[0], word_of(line[1], reads, writes), *flat[2:])


def new_starts(plan, saves):
    """For each line where it begins with all lines around it that save and put back."""
    starts = []
    many = 0
    for place in plan.places:
        starts.append(many)
        many += 1 + 2 * len(slots_saved(saves, place))
    return starts


def placed_lines(plan, placement, saves):
    """The lines of the placed code, which may be too many or too long."""
    starts = new_starts(plan, saves)
    lines = []
    for place in plan.places:
        cells = [placement[place[0]][slot] for slot in slots_saved(saves, place)]
        lines.extend([("do", word_of(PUSH, (cell,), ())) for cell in cells])
        lines.append(led_line(worded_line(plan, placement, place), starts))
        lines.extend([("do", word_of(POP, (), (cell,))) for cell in cells[::-1]])
    return tuple(lines)


def placed(plan, placement, saves):
    check_placement(plan, placement)
    check_saves(plan, saves)
    lines = placed_lines(plan, placement, saves)
    if len(lines) > MOST_LINES:
        raise TooLarge(len(lines))
    return Code(lines)


def cell_run(code, moves):
    check_moves(moves)
    return told_on_cells(code, 0, moves)
