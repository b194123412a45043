"""Whether two rows do the same, and moves that part them."""

from calltrim.errors import Undefined
from calltrim.pairs import Pairs
from calltrim.partings import parting_moves
from calltrim.runs import check_row, is_moves, is_row, run
from calltrim.systems import row_of, system_of_two


def compared(one, left, other, right):
    """The pairs of the system of both codes, and both rows as rows of its numbers."""
    check_row(one, left)
    check_row(other, right)
    system, mine, theirs = system_of_two(one, other)
    return Pairs(system), row_of(mine, left), row_of(theirs, right)


def alike(one, left, other, right):
    pairs, mine, theirs = compared(one, left, other, right)
    return pairs.rows_alike(mine, theirs)


def parting(one, left, other, right):
    pairs, mine, theirs = compared(one, left, other, right)
    if pairs.rows_alike(mine, theirs):
        raise Undefined("alike")
    return parting_moves(pairs, mine, theirs)


def parting_holds(one, left, other, right, value):
    if not is_row(one, left) or not is_row(other, right) or not is_moves(value):
        return False
    return run(one, left, value) != run(other, right, value)
