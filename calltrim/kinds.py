"""Tests for numbers and tuples of numbers, for values of any kind."""


def is_number(value):
    # a bool is an int for Python, but no number here
    return isinstance(value, int) and not isinstance(value, bool) and value >= 0


def is_number_below(value, many):
    return is_number(value) and value < many


def is_tuple_below(value, many):
    """Whether value is a tuple of numbers that are all below many."""
    return isinstance(value, tuple) and all([is_number_below(member, many) for member in value])


def is_ascending(members):
    """Whether each member is more than the one ahead of it; all of them must be such as can be compared."""
    return all([members[at] < members[at + 1] for at in range(len(members) - 1)])
