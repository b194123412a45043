"""Moves that part rows of numbers which do not do the same."""

from calltrim.systems import least_moves, level_of, row_left, told


def first_difference(system, one, other, moves):
    """The moves up to where the runs of both rows differ; None if they tell the same."""
    mine, theirs = told(system, one, moves), told(system, other, moves)
    if mine == theirs:
        return None
    at = 0
    while mine[at] == theirs[at]:
        at += 1
    return moves[:at]


def sealed(system, one, other, moves):
    """Moves that part the rows by these ones, or by shortest moves of what these leave; None if neither do."""
    parted = first_difference(system, one, other, moves)
    if parted is not None:
        return parted
    mine, theirs = row_left(system, one, moves), row_left(system, other, moves)
    if level_of(system, mine) == level_of(system, theirs):
        return None
    # the row of less norm has returned behind its shortest moves, the other one has not
    less = mine if level_of(system, mine) < level_of(system, theirs) else theirs
    return first_difference(system, one, other, moves + least_moves(system, less))


def moves_ahead(pairs, one, other, pair):
    """The moves behind which the rows, coming together, have this pair in front for the first time."""
    moves = ()
    for step in pairs.steps(one, other):
        if step == pair:
            break
        moves = moves + least_moves(pairs.system, (step[1],))
    return moves


def end_behind(system, number, moves):
    """What is left of the moves when the number has just returned; None if it has not by then."""
    row = (number,)
    for at in range(len(moves)):
        row = row_left(system, row, moves[at:at + 1])
        if not row:
            return moves[at + 1:]
    return None


def lifted(pairs, one, other, pair, moves):
    """Moves that part the rows, from moves that part the two sides of a pair in which they do not come together.

    There are none of the pair (None) if it has no rest; the pair is None if the norms of the rows differ.
    """
    tries = [()]
    if pair is not None:
        ahead = moves_ahead(pairs, one, other, pair)
        short = least_moves(pairs.system, (pair[1],))
        tries = [ahead + short]
        if moves is not None:
            end = end_behind(pairs.system, pair[1], moves)
            tries = [ahead + moves] + ([ahead + short + end] if end is not None else [])
    found = [sealed(pairs.system, one, other, tried) for tried in tries]
    return min([parted for parted in found if parted is not None], key=len)


def way_down(pairs, pair):
    """An answer behind which the sides of a struck pair do not come together, both rows, and the pair that lacks."""
    reason = pairs.reasons[pair]
    for answer in range(len(pairs.system.rows[pair[0]])):
        one, other = pairs.rows_behind(pair, answer)
        unequal = level_of(pairs.system, one) != level_of(pairs.system, other)
        if unequal or (reason is not None and reason in pairs.steps(one, other)):
            break
    return answer, one, other, reason


def parting_moves(pairs, one, other):
    """Moves that part two rows of numbers which do not do the same."""
    system = pairs.system
    uneven = level_of(system, one) != level_of(system, other)
    pair = None if uneven else pairs.first_struck(one, other)
    ways = [(None, one, other, pair)]
    while pair is not None and pairs.rest_of(pair) is not None:
        ways.append(way_down(pairs, pair))
        pair = ways[-1][3]
    moves = None
    for answer, left, right, lacking in ways[::-1]:
        moves = lifted(pairs, left, right, lacking, moves)
        if answer is not None:
            moves = (answer,) + moves
    return moves
