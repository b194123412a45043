"""Norms and lengths: the least that a run comes to until it returns."""

from calltrim.lines import is_event_line, leads_of, silent_row


def cost_at(lines, place, found, silent):
    """The least cost of a place by what is found so far; None if that does not tell."""
    line = lines[place]
    if is_event_line(line):
        known = [found[lead] for lead in leads_of(line, place) if found[lead] is not None]
        return 1 + min(known) if known else None
    parts = [found[part] for part in silent_row(line, place)]
    return None if None in parts else silent + sum(parts)


def least_costs(lines, silent):
    """The least cost of each place, None of an endless one: events cost 1, other lines silent."""
    found = [None] * len(lines)
    better = True
    while better:
        better = False
        # most lines go on to the next one, so costs spread fastest from the end
        for place in reversed(range(len(lines))):
            cost = cost_at(lines, place, found, silent)
            if cost is not None and (found[place] is None or cost < found[place]):
                found[place] = cost
                better = True
    return tuple(found)


def norms_of(lines):
    return least_costs(lines, 0)


def lengths_of(lines):
    return least_costs(lines, 1)


def rule_cost(rows, found):
    """The norm of a number with these rows by what is found so far; None if that does not tell."""
    sums = []
    for row in rows:
        parts = [found[number] for number in row]
        if None not in parts:
            sums.append(1 + sum(parts))
    return min(sums) if sums else None


def rule_norms(rules):
    """The norm of the number of each rule, None of an endless one."""
    found = [None] * len(rules)
    better = True
    while better:
        better = False
        for number in reversed(range(len(rules))):
            cost = rule_cost(rules[number][1], found)
            if cost is not None and (found[number] is None or cost < found[number]):
                found[number] = cost
                better = True
    return tuple(found)
