"""Clashes of slots, forced saves, and their papers."""

from calltrim.causes import causes_of, first_causes, pair_of
from calltrim.errors import InvalidSlot, Undefined
from calltrim.flows import cover, is_slot, least_facts
from calltrim.meetings import ACTIVE, meetings_of
from calltrim.placements import check_saves, is_save
from calltrim.runs import is_moves
from calltrim.showings import cause_moves


def clashing(plan, saves):
    """The first cause for each pair of slots that clash."""
    return first_causes(causes_of(plan, saves, least_facts(plan)))


def clashes(plan, saves):
    check_saves(plan, saves)
    return tuple(sorted(clashing(plan, saves)))


def shows_clash(plan, saves, x, y, moves):
    if not is_slot(plan, x) or not is_slot(plan, y) or not is_moves(moves):
        return False
    for held, written, p in meetings_of(plan, moves):
        if pair_of(held, written) == pair_of(x, y) and (p == ACTIVE or (held[0], p, held[1]) not in saves):
            return True
    return False


def check_slot(plan, value):
    if not is_slot(plan, value):
        raise InvalidSlot(value)


def clash_moves(plan, saves, x, y):
    check_saves(plan, saves)
    check_slot(plan, x)
    check_slot(plan, y)
    causes = clashing(plan, saves)
    if pair_of(x, y) not in causes:
        raise Undefined("apart")
    return cause_moves(plan, causes[pair_of(x, y)])


def facts(plan):
    return least_facts(plan)


def keep_apart(plan, saves, x, y, value):
    if not is_slot(plan, x) or not is_slot(plan, y) or not cover(plan, value):
        return False
    return pair_of(x, y) not in first_causes(causes_of(plan, saves, value))


def forced_saves(plan):
    # a slot can clash with itself by calls alone
    causes = [cause for cause in causes_of(plan, (), least_facts(plan)) if cause[1] == cause[2]]
    return tuple(sorted({(f, p, s) for (f, p), (_, s), _ in causes}))


def shows_forced(plan, save, moves):
    if not is_save(plan, save) or not is_moves(moves):
        return False
    f, p, s = save
    return ((f, s), (f, s), p) in meetings_of(plan, moves)
