"""Forms, the prime form of a row, and codes that are spelled from forms."""

from calltrim.codes import Code, MOST_LINES
from calltrim.errors import InvalidForm, InvalidNumber, TooLarge
from calltrim.kinds import is_number_below
from calltrim.norms import rule_norms
from calltrim.primes import formed
from calltrim.rules import well_made
from calltrim.runs import check_moves, check_place, check_row
from calltrim.systems import system_of_rules, told


def is_form(value):
    return well_made(value)


def check_form(form):
    if not is_form(form):
        raise InvalidForm(form)


def form_norm(form, number):
    check_form(form)
    if not is_number_below(number, len(form[1])):
        raise InvalidNumber(number)
    return rule_norms(form[1])[number]


def form_run(form, moves):
    check_form(form)
    check_moves(moves)
    return told(system_of_rules(form[1]), form[0], moves)


def prime_form(code, row):
    check_row(code, row)
    form, _ = formed(code, row)
    return form


def least_events(code, place):
    check_place(code, place)
    return len(prime_form(code, (place,))[1])


def row_lines(row, addresses):
    """The lines of a row of numbers; addresses are the places of their event lines."""
    if not row:
        return [("back",)]
    calls = [("call", addresses[number]) for number in row[:-1]]
    return calls + [("go", addresses[row[-1]])]


def many_lines(rows):
    """How many lines the rows of numbers take, one behind the other."""
    return sum([max(1, len(row)) for row in rows])


def rule_lines(rule, address, addresses):
    """The event line at the address, and behind it the lines of the rows of the rule."""
    word, rows = rule
    # the row of answer 0 begins behind the event line, the row of answer 1 where its lines end
    targets = tuple([address + 1 + many_lines(rows[:answer]) for answer in range(1, len(rows))])
    event = ("ask", word, targets) if targets else ("do", word)
    return [event] + [line for row in rows for line in row_lines(row, addresses)]


def spelled(form):
    check_form(form)
    start, rules = form
    addresses = []
    many = many_lines([start])
    for rule in rules:
        addresses.append(many)
        many += 1 + many_lines(rule[1])
    if many > MOST_LINES:
        raise TooLarge(many)
    lines = row_lines(start, addresses)
    for number in range(len(rules)):
        lines.extend(rule_lines(rules[number], addresses[number], addresses))
    return Code(lines)
