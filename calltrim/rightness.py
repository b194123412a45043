"""Whether placements with saves are right, and moves on which they are wrong."""

from calltrim.causes import causes_of
from calltrim.errors import Undefined
from calltrim.flows import least_facts
from calltrim.placements import check_placement, check_saves
from calltrim.showings import cause_moves


def wrong_causes(plan, placement, saves):
    """The causes by which two slots clash that have one cell, or a slot with itself; those of do lines first."""
    causes = causes_of(plan, saves, least_facts(plan))
    return [cause for cause in causes if placement[cause[1][0]][cause[1][1]] == placement[cause[2][0]][cause[2][1]]]


def is_right(plan, placement, saves):
    check_placement(plan, placement)
    check_saves(plan, saves)
    return not wrong_causes(plan, placement, saves)


def wrong_moves(plan, placement, saves):
    check_placement(plan, placement)
    check_saves(plan, saves)
    causes = wrong_causes(plan, placement, saves)
    if not causes:
        raise Undefined("right")
    # what a call wrote may be put back at its end, but only where a cause of a do line comes ahead of it
    return cause_moves(plan, causes[0])
