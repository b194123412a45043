"""Systems: what codes and forms have in common.

A system has numbers. Each number meets one event, and behind each answer a row of numbers comes in its place.
The numbers of a code are the places of its event lines, those of rules the numbers of the rules.
"""

from calltrim.lines import is_event_line, leads_of, silent_row
from calltrim.norms import rule_norms


class System:
    """Events (word, count of answers), rows by answer and norms of numbers; a silent place has the event None."""

    def __init__(self, events, rows, norms):
        self.events = events
        self.rows = rows
        self.norms = norms


def level_of(system, row):
    return sum([system.norms[number] for number in row])


def least_answer(system, number):
    """The least answer with which a shortest run goes on."""
    answer = 0
    while level_of(system, system.rows[number][answer]) >= system.norms[number]:
        answer += 1
    return answer


def least_moves(system, row):
    """The first in dictionary order of the shortest moves by which the row returns."""
    stack = list(row[::-1])
    moves = []
    while stack:
        number = stack.pop()
        answer = least_answer(system, number)
        moves.append(answer)
        stack.extend(system.rows[number][answer][::-1])
    return tuple(moves)


def told(system, row, moves):
    """What the run of the row by the moves meets."""
    stack = list(row[::-1])
    things = []
    for move in moves:
        if not stack:
            break
        number = stack.pop()
        word, many = system.events[number]
        things.append((word, many, move % many))
        stack.extend(system.rows[number][move % many][::-1])
    things.append(system.events[stack[-1]] if stack else ())
    return tuple(things)


def row_left(system, row, moves):
    """What the moves leave of the row; () if it returns by then."""
    stack = list(row[::-1])
    for move in moves:
        if not stack:
            break
        number = stack.pop()
        rows = system.rows[number]
        stack.extend(rows[move % len(rows)][::-1])
    return tuple(stack[::-1])


def spread_place(code, place, by, known):
    """The row of event places, raised by the number by, that a place runs as; silent lines always come to an end."""
    if place not in known:
        line = code.lines[place]
        row = (place + by,)
        if not is_event_line(line):
            row = spread_row([spread_place(code, part, by, known) for part in silent_row(line, place)])
        known[place] = row
    return known[place]


def spread_row(rows):
    return tuple([number for row in rows for number in row])


def spread_code(code, by):
    """The row of event places, raised by the number by, for each place."""
    known = {}
    return [spread_place(code, place, by, known) for place in range(len(code.lines))]


def event_at(code, place):
    line = code.lines[place]
    return (line[1], len(leads_of(line, place))) if is_event_line(line) else None


def rows_at(code, place, spread):
    line = code.lines[place]
    return tuple([spread[lead] for lead in leads_of(line, place)]) if is_event_line(line) else ()


def system_of_two(one, other):
    """The system of both codes, and for each of them the rows of numbers that its places run as."""
    # equal codes share their numbers, so that equal places are seen to do the same
    codes = [one] if one == other else [one, other]
    events, rows, norms, spreads = [], [], [], []
    for code in codes:
        spread = spread_code(code, len(norms))
        events.extend([event_at(code, place) for place in range(len(code.lines))])
        rows.extend([rows_at(code, place, spread) for place in range(len(code.lines))])
        norms.extend(code.norms)
        spreads.append(spread)
    return System(tuple(events), tuple(rows), tuple(norms)), spreads[0], spreads[-1]


def system_of(code):
    system, spread, _ = system_of_two(code, code)
    return system, spread


def row_of(spread, row):
    """The row of numbers that a row of places runs as."""
    return spread_row([spread[place] for place in row])


def system_of_rules(rules):
    """The system of rules each of whose numbers has a norm."""
    events = tuple([(word, len(rows)) for word, rows in rules])
    return System(events, tuple([rows for _, rows in rules]), rule_norms(rules))
