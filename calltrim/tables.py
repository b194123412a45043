"""Tables: rows of numbers of rules for event places, by which rows of places have worths."""

from calltrim.kinds import is_number_below, is_tuple_below
from calltrim.lines import is_event_line, leads_of
from calltrim.systems import row_of, spread_code, spread_row


def is_pair(code, value, many):
    """Whether value is a pair of a table, its numbers below many."""
    if not isinstance(value, tuple) or len(value) != 2:
        return False
    place, row = value
    if not is_number_below(place, len(code)) or not is_event_line(code.lines[place]):
        return False
    return is_tuple_below(row, many) and len(row) > 0


def is_table(code, value, many):
    if not isinstance(value, tuple) or not all([is_pair(code, pair, many) for pair in value]):
        return False
    return all([value[at][0] < value[at + 1][0] for at in range(len(value) - 1)])


def worth_of(rows, places):
    """The worth of a row of event places by the rows of a table; None if the table lacks one of them."""
    if any([place not in rows for place in places]):
        return None
    return spread_row([rows[place] for place in places])


def is_worth(rows, places, wanted):
    if any([place not in rows for place in places]):
        return False
    # rows that do not fit may be so long that their worth had better not be made
    if sum([len(rows[place]) for place in places]) != len(wanted):
        return False
    return worth_of(rows, places) == wanted


def fits_at(line, leads, rules, rows, place):
    """Whether the row of the event line at place fits; leads has a row of event places for each answer."""
    first, *rest = rows[place]
    word, coming = rules[first]
    if word != line[1] or len(coming) != len(leads):
        return False
    return all([is_worth(rows, leads[answer], (*coming[answer], *rest)) for answer in range(len(leads))])


def fitting_rows(code, rules, value):
    """The row for each place of a table that fits; None if value is none."""
    if not is_table(code, value, len(rules)):
        return None
    rows = {place: row for place, row in value}
    spread = spread_code(code, 0)
    for place in rows:
        line = code.lines[place]
        leads = [spread[lead] for lead in leads_of(line, place)]
        if not fits_at(line, leads, rules, rows, place):
            return None
    return rows


def worth_by(code, rules, value, row):
    """The worth of a row of places by a table that fits; None if there is none, or value is no such table."""
    rows = fitting_rows(code, rules, value)
    return None if rows is None else worth_of(rows, row_of(spread_code(code, 0), row))
