"""Rules and forms as values: which ones are well made."""

from calltrim.kinds import is_tuple_below
from calltrim.norms import rule_norms
from calltrim.words import is_word

MOST_ANSWERS = 5
MOST_RULES = 32
MOST_START = 192
MOST_ROW = 32
MOST_NORM = 32


def is_rule(value, many):
    """Whether value is a rule whose numbers are below many."""
    if not isinstance(value, tuple) or len(value) != 2 or not is_word(value[0]):
        return False
    rows = value[1]
    if not isinstance(rows, tuple) or not 1 <= len(rows) <= MOST_ANSWERS:
        return False
    return all([is_tuple_below(row, many) for row in rows])


def is_rules(value):
    return isinstance(value, tuple) and all([is_rule(rule, len(value)) for rule in value])


def come_behind(row, come):
    """How many numbers have come behind the row if come had ahead of it; None if one was left out."""
    for number in row:
        if number > come:
            return None
        if number == come:
            come += 1
    return come


def in_order(start, rules):
    """Whether each number comes for the first time in start or in a row of a smaller one, behind all smaller ones."""
    come = come_behind(start, 0)
    for number in range(len(rules)):
        if come is None or come <= number:
            return False
        for row in rules[number][1]:
            come = come_behind(row, come) if come is not None else None
    return come is not None


def is_small(start, rules):
    longest = [max([len(row) for row in rows]) for _, rows in rules]
    return len(rules) <= MOST_RULES and len(start) <= MOST_START and all([most <= MOST_ROW for most in longest])


def well_made(value):
    """Whether value is a form."""
    if not isinstance(value, tuple) or len(value) != 2:
        return False
    start, rules = value
    if not is_rules(rules) or not is_tuple_below(start, len(rules)):
        return False
    if not is_small(start, rules) or not in_order(start, rules):
        return False
    return all([norm is not None and norm <= MOST_NORM for norm in rule_norms(rules)])
