"""Norms and lengths: the least that a run comes to until it returns.

Each place or number has choices, tuples (cost, parts): what is met at once, and all that is run behind it.
"""

from calltrim.closures import closure
from calltrim.lines import is_event_line, leads_of, silent_row


def least_choice(choices, found):
    """The least cost of the choices by what is found so far; None if that does not tell."""
    sums = []
    for cost, parts in choices:
        known = [found[part] for part in parts]
        if None not in known:
            sums.append(cost + sum(known))
    return min(sums) if sums else None


def least_costs(choices):
    """The least cost of each place, None of an endless one; choices has the choices of each."""
    found = [None] * len(choices)
    better = True
    while better:
        better = False
        # most lines go on to the next one, so costs spread fastest from the end
        for place in reversed(range(len(choices))):
            cost = least_choice(choices[place], found)
            if cost is not None and (found[place] is None or cost < found[place]):
                found[place] = cost
                better = True
    return tuple(found)


def line_choices(line, place, silent):
    """The choices of a line if a line that is no event costs silent."""
    if is_event_line(line):
        return [(1, (lead,)) for lead in leads_of(line, place)]
    return [(silent, silent_row(line, place))]


def line_costs(lines, silent):
    return least_costs([line_choices(lines[place], place, silent) for place in range(len(lines))])


def norms_of(lines):
    return line_costs(lines, 0)


def lengths_of(lines):
    return line_costs(lines, 1)


def rule_norms(rules):
    """The norm of the number of each rule, None of an endless one."""
    return least_costs([[(1, row) for row in rows] for _, rows in rules])


def norms_met(rules, row):
    """The norms of all numbers that a row of numbers can come to; None for others, which may be many."""
    numbers = range(len(rules))
    met = closure(row, {number: [part for coming in rules[number][1] for part in coming] for number in numbers})
    return least_costs([[(1, coming) for coming in rules[number][1]] if number in met else [] for number in numbers])
