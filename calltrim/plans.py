"""Plans: programs whose procedures have variables of their own, and their runs."""

from calltrim.activations import Variables, told_with
from calltrim.codes import Code, MOST_LINES, first_too_long
from calltrim.errors import Endless, InvalidLine, InvalidNumber, InvalidPlan, TooLong, Unset
from calltrim.flows import first_unset
from calltrim.kinds import is_number_below
from calltrim.lines import ends_well
from calltrim.norms import lengths_of, norms_of
from calltrim.planlines import flat_line, is_plan_line
from calltrim.runs import check_moves

MOST_COMMONS = 4
MOST_PROCEDURES = 5
MOST_OWN_SLOTS = 4
MOST_OWN_LINES = 12
MOST_SLOTS = 8


def is_procedure(value):
    """Whether value is of the form of a procedure, its lines not looked at."""
    if not isinstance(value, tuple) or len(value) != 2 or not is_number_below(value[0], MOST_OWN_SLOTS + 1):
        return False
    return isinstance(value[1], tuple) and 1 <= len(value[1]) <= MOST_OWN_LINES


def are_procedures(value):
    if not isinstance(value, (list, tuple)) or not 1 <= len(value) <= MOST_PROCEDURES:
        return False
    if not all([is_procedure(procedure) for procedure in value]):
        return False
    slots = sum([procedure[0] for procedure in value])
    return slots <= MOST_SLOTS and sum([len(procedure[1]) for procedure in value]) <= MOST_LINES


def check_lines(commons, procedures):
    for slots, lines in procedures:
        for p in range(len(lines)):
            wrong = not is_plan_line(lines[p], commons + slots, len(lines), len(procedures))
            if wrong or (p == len(lines) - 1 and not ends_well(lines[p])):
                raise InvalidLine(lines[p])


def checked_procedures(commons, procedures):
    if not is_number_below(commons, MOST_COMMONS + 1):
        raise InvalidNumber(commons)
    if not are_procedures(procedures):
        raise InvalidPlan(procedures)
    check_lines(commons, procedures)
    return tuple(procedures)


def starts_of(procedures):
    """How many lines stand ahead of each procedure."""
    starts = []
    many = 0
    for _, lines in procedures:
        starts.append(many)
        many += len(lines)
    return tuple(starts)


def places_of(procedures):
    return tuple([(f, p) for f in range(len(procedures)) for p in range(len(procedures[f][1]))])


def flat_lines(procedures):
    """The lines of the procedures one behind the other, as those of a code that goes on as the plan does."""
    starts = starts_of(procedures)
    return tuple([flat_line(line, starts[f], starts) for f in range(len(procedures)) for line in procedures[f][1]])


def check_ends(flat, places):
    norms = norms_of(flat)
    if None in norms:
        raise Endless(places[norms.index(None)])
    wrong = first_too_long(norms, lengths_of(flat))
    if wrong is not None:
        raise TooLong(places[wrong])


class Plan:
    """1 to 5 procedures with slots of their own, from each line of which a run can return."""

    def __init__(self, commons, procedures):
        self.procedures = checked_procedures(commons, procedures)
        self.commons = commons
        self.starts = starts_of(self.procedures)
        self.places = places_of(self.procedures)
        flat = flat_lines(self.procedures)
        check_ends(flat, self.places)
        self.skeleton = Code(flat)
        unset = first_unset(self)
        if unset is not None:
            raise Unset(unset[:2], unset[2])

    def __eq__(self, other):
        return isinstance(other, Plan) and self.commons == other.commons and self.procedures == other.procedures


def plan_run(plan, moves):
    check_moves(moves)
    return told_with(plan, Variables(plan.commons), moves)
