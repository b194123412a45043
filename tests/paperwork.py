"""Keys and papers of forms looked at once more, as plainly as the document says them, to compare with."""

from calltrim.forms import is_form
from calltrim.words import is_word
from reference import CodeRules, FormRules, front_of, level_of, run_of


def is_plain_number(value, many=10 ** 20):
    return type(value) is int and 0 <= value < many


def are_numbers(value, many=10 ** 20):
    return type(value) is tuple and all(is_plain_number(member, many) for member in value)


def are_rules(value):
    if type(value) is not tuple:
        return False
    for rule in value:
        if type(rule) is not tuple or len(rule) != 2 or not is_word(rule[0]):
            return False
        if type(rule[1]) is not tuple or not 1 <= len(rule[1]) <= 5:
            return False
        if not all(are_numbers(row, len(value)) for row in rule[1]):
            return False
    return True


def is_place_row(code, value):
    return are_numbers(value, len(code)) and len(value) <= 6


def worth_as_written(code, table, row):
    row = front_of(code, row)
    if not row:
        return ()
    behind = worth_as_written(code, table, row[1:])
    return None if row[0] not in table or behind is None else table[row[0]] + behind


def table_as_written(code, rules, value):
    """The table as a dict; None if value is no table that fits."""
    if type(value) is not tuple or not all(type(pair) is tuple and len(pair) == 2 for pair in value):
        return None
    last = -1
    for place, row in value:
        if not is_plain_number(place, len(code)) or place <= last or code[place][0] not in ("do", "ask"):
            return None
        if not are_numbers(row, len(rules)) or row == ():
            return None
        last = place
    table = dict(value)
    for place, row in value:
        word, rows = rules[row[0]]
        if word != code[place][1] or len(rows) != len(code.leads(place)):
            return None
        for lead, coming in zip(code.leads(place), rows):
            if worth_as_written(code, table, (lead,)) != coming + row[1:]:
                return None
    return table


def key_as_written(one, left, other, right, value):
    if not is_place_row(one, left) or not is_place_row(other, right):
        return False
    if type(value) is not tuple or len(value) != 3 or not are_rules(value[0]):
        return False
    mine, theirs = (table_as_written(code, value[0], table) for code, table in ((one, value[1]), (other, value[2])))
    if mine is None or theirs is None:
        return False
    worth = worth_as_written(one, mine, left)
    return worth is not None and worth == worth_as_written(other, theirs, right)


def left_by(rules, row, moves):
    for move in moves:
        if row:
            row = rules.lead(row[0], move % rules.event(row[0])[1]) + row[1:]
    return row


def first_reach(rules, row, moves, level):
    levels = []
    for at in range(len(moves)):
        left = left_by(rules, row, moves[:at])
        if not left:
            return False
        levels.append(level_of(rules, left))
    return level_of(rules, left_by(rules, row, moves)) == level and all(ahead > level for ahead in levels)


def part_by(rules, one, other, moves):
    return run_of(rules, one, moves) != run_of(rules, other, moves)


def form_paper_as_written(code, row, form, paper):
    if not is_place_row(code, row) or not is_form(form) or type(paper) is not tuple or len(paper) != 3:
        return False
    table = table_as_written(code, form[1], paper[0])
    if table is None or worth_as_written(code, table, row) != form[0]:
        return False
    rules, many = FormRules(form[1]), len(form[1])
    return dense_as_written(rules, many, paper[1]) and apart_as_written(rules, many, paper[2])


def dense_as_written(rules, many, dense):
    if type(dense) is not tuple or len(dense) != many:
        return False
    for number, entries in enumerate(dense):
        levels = list(range(rules.norm(number) - 1, 0, -1))
        if type(entries) is not tuple or len(entries) != len(levels):
            return False
        for level, entry in zip(levels, entries):
            if type(entry) is not tuple or len(entry) != 3 or not all(are_numbers(moves) for moves in entry):
                return False
            if not all(first_reach(rules, (number,), moves, level) for moves in entry[:2]):
                return False
            if not part_by(rules, *(left_by(rules, (number,), moves) for moves in entry[:2]), entry[2]):
                return False
    return True


def apart_as_written(rules, many, apart):
    if type(apart) is not tuple or len(apart) != many:
        return False
    for number, entries in enumerate(apart):
        if type(entries) is not tuple or len(entries) != many - number - 1:
            return False
        for at, moves in enumerate(entries):
            if not are_numbers(moves) or not part_by(rules, (number,), (number + 1 + at,), moves):
                return False
    return True


def does_as_rules(code, row, rules, numbers, moves):
    return run_of(CodeRules(code), row, moves) == run_of(FormRules(rules), numbers, moves)
