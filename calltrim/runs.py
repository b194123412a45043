"""Rows of places and their runs."""

from calltrim.errors import InvalidMoves, InvalidNumber, InvalidRow
from calltrim.kinds import is_number, is_number_below, is_tuple_below
from calltrim.lines import is_event_line, silent_row
from calltrim.systems import least_moves, row_of, system_of, told

MOST_MEMBERS = 6


def is_row(code, value):
    return is_tuple_below(value, len(code.lines)) and len(value) <= MOST_MEMBERS


def is_moves(value):
    return isinstance(value, tuple) and all([is_number(member) for member in value])


def check_place(code, place):
    if not is_number_below(place, len(code)):
        raise InvalidNumber(place)


def check_row(code, row):
    if not is_row(code, row):
        raise InvalidRow(row)


def check_moves(moves):
    if not is_moves(moves):
        raise InvalidMoves(moves)


def row_norm(code, row):
    check_row(code, row)
    return sum([code.norms[place] for place in row])


def front(code, row):
    check_row(code, row)
    stack = list(row[::-1])
    while stack and not is_event_line(code.lines[stack[-1]]):
        place = stack.pop()
        stack.extend(silent_row(code.lines[place], place)[::-1])
    return tuple([place for place in stack[::-1] if code.norms[place] > 0])


def run(code, row, moves):
    check_row(code, row)
    check_moves(moves)
    system, spread = system_of(code)
    return told(system, row_of(spread, row), moves)


def returns(code, row, moves):
    return run(code, row, moves)[-1] == ()


def shortest(code, row):
    check_row(code, row)
    system, spread = system_of(code)
    return least_moves(system, row_of(spread, row))
