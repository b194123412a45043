"""Random rules, and codes of them in which rows are put together from other pieces than the rules themselves."""

from calltrim.codes import Code
from calltrim.errors import Endless, TooLong


def random_rules(source, many, words):
    rules = []
    for _ in range(many):
        rows = [tuple(source.randrange(many) for _ in range(source.choice([0, 0, 1, 1, 2, 3])))
                for _ in range(source.choice([1, 1, 2, 2, 3]))]
        rules.append((source.choice(words), tuple(rows)))
    return tuple(rules)


def random_layers(source, many, words):
    """Rules in which the rows lead to greater numbers alone, so that most norms are more than 1."""
    rules = []
    for number in range(many - 1):
        rows = [tuple(source.randrange(number + 1, many) for _ in range(source.choice([1, 1, 2])))
                for _ in range(source.choice([1, 2, 2]))]
        rules.append((source.choice(words), tuple(rows)))
    return (*rules, (words[0], ((),)))


def layered_code(source):
    """A code whose place 0 is divided at few levels."""
    while True:
        code = code_of_rules((0,), random_layers(source, source.randrange(2, 8), "abc"))
        if code:
            return code


def pieced(source, row, pieces):
    """The row as a row of pieces, each of them a row of numbers."""
    found = []
    while row:
        piece = source.choice([piece for piece in pieces if row[:len(piece)] == piece])
        found.append(piece)
        row = row[len(piece):]
    return tuple(found)


def rules_of_pieces(source, start, rules, pieces):
    """Rules whose numbers are pieces, which do the same."""
    needed, made = [], []

    def numbers(row):
        for piece in row:
            if piece not in needed:
                needed.append(piece)
        return tuple(needed.index(piece) for piece in row)

    begin = numbers(pieced(source, start, pieces))
    while len(made) < len(needed):
        first, *rest = needed[len(made)]
        word, rows = rules[first]
        made.append((word, tuple(numbers(pieced(source, row + tuple(rest), pieces)) for row in rows)))
    return begin, tuple(made)


def code_of_rules(start, rules):
    """A code whose place 0 does what start does; None if there is none so small."""
    def many(row):
        return max(1, len(row))

    at, here = [], many(start)
    for _, rows in rules:
        at.append(here)
        here += 1 + sum(many(row) for row in rows)

    def lines_of(row):
        calls = [("call", at[number]) for number in row[:-1]]
        return calls + [("go", at[row[-1]])] if row else [("back",)]

    lines = lines_of(start)
    for word, rows in rules:
        targets, here = [], len(lines) + 1
        for row in rows[:-1]:
            here += many(row)
            targets.append(here)
        lines.append(("ask", word, tuple(targets)) if targets else ("do", word))
        for row in rows:
            lines += lines_of(row)
    try:
        return Code(lines) if len(lines) <= 32 else None
    except (Endless, TooLong):
        return None


def random_pair(source):
    """Two codes of unlike lines whose places 0 do the same."""
    while True:
        many = source.randrange(1, 6)
        rules = random_rules(source, many, source.choice(["a", "ab", "abcd"]))
        start = tuple(source.randrange(many) for _ in range(source.choice([1, 1, 2, 3, 6])))
        pieces = [(number,) for number in range(many)]
        for _ in range(source.randrange(1, 4)):
            pieces.append(tuple(source.randrange(many) for _ in range(source.randrange(2, 5))))
        one = code_of_rules(start, rules)
        other = one and code_of_rules(*rules_of_pieces(source, start, rules, pieces))
        if other:
            return one, other
