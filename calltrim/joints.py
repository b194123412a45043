"""Levels of rows, and the joints at which a row can be divided."""

from calltrim.errors import InvalidNumber
from calltrim.kinds import is_number_below
from calltrim.primes import Primes
from calltrim.runs import check_moves, check_row
from calltrim.systems import level_of, row_of, system_of


def reaches_first(system, row, moves, level):
    """Whether moves first reach the level of a row of numbers."""
    stack = list(row[::-1])
    now = level_of(system, row)
    for move in moves:
        # a row that has returned is at level 0, which is none to go on from
        if now <= level:
            return False
        number = stack.pop()
        rows = system.rows[number]
        coming = rows[move % len(rows)]
        now += level_of(system, coming) - system.norms[number]
        stack.extend(coming[::-1])
    return now == level


def first_reaches(code, row, moves, level):
    check_row(code, row)
    check_moves(moves)
    system, spread = system_of(code)
    numbers = row_of(spread, row)
    if not is_number_below(level, level_of(system, numbers) + 1):
        raise InvalidNumber(level)
    return reaches_first(system, numbers, moves, level)


def joints(code, row):
    check_row(code, row)
    system, spread = system_of(code)
    numbers = row_of(spread, row)
    primes = Primes(system, numbers)
    levels = [level_of(system, numbers)]
    for part in primes.divided(numbers):
        levels.append(levels[-1] - primes.part_norm(part))
    return tuple(levels)
