"""Keys: papers that two rows of places do the same."""

from calltrim.errors import Undefined
from calltrim.primes import formed
from calltrim.rules import is_rules
from calltrim.runs import check_row, is_row
from calltrim.tables import worth_by


def key_of(one, left, other, right):
    check_row(one, left)
    check_row(other, right)
    # rows that do the same have one prime form, so both tables are of its rules
    mine, table = formed(one, left)
    theirs, second = formed(other, right)
    if mine != theirs:
        raise Undefined("unlike")
    return mine[1], table, second


def key_holds(one, left, other, right, value):
    if not is_row(one, left) or not is_row(other, right):
        return False
    if not isinstance(value, tuple) or len(value) != 3 or not is_rules(value[0]):
        return False
    rules, table, second = value
    mine = worth_by(one, rules, table, left)
    return mine is not None and mine == worth_by(other, rules, second, right)
