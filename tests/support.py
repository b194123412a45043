"""What several tests use: odd values, checks of errors, and random codes."""

import random

from calltrim.codes import Code, is_line
from calltrim.errors import Endless, TooLong

BACK = ("back",)
SMALL = Code([BACK])
ODD_VALUES = [
    None, True, False, -1, 0, 1, 7, 10 ** 11, "", "a", "back", "do a", [], [0], [[]], (), (0,), (True,), (None,),
    ("a",), ((),), ([],), (0, [0]), ("do", "a"), ["do", "a"], ("back",), ("go", True), SMALL, (SMALL,), [SMALL],
    ValueError("x"),
]


def caught(case, kind, call, *arguments, **named):
    """The error of exactly this class that the call raises."""
    with case.assertRaises(kind) as catch:
        call(*arguments, **named)
    case.assertIs(type(catch.exception), kind)
    return catch.exception


def is_plain(value):
    """Whether a value is built of plain tuples, integers and strings alone."""
    if type(value) is tuple:
        return all(is_plain(member) for member in value)
    return type(value) in (int, str)


def random_line(source, many, words, last):
    def place():
        return source.randrange(many)

    kinds = ["go", "back", "back"] if last else ["do", "do", "ask", "ask", "go", "call", "call", "back"]
    kind = source.choice(kinds)
    if kind == "do":
        return ("do", source.choice(words))
    if kind == "ask":
        return ("ask", source.choice(words), tuple(place() for _ in range(source.choice([1, 1, 1, 2, 3, 4]))))
    return (kind, place()) if kind != "back" else BACK


def random_lines(source, many, words=("a", "b", "t.1", "u.2>3")):
    return tuple(random_line(source, many, words, at == many - 1) for at in range(many))


def random_code(source, many, words=("a", "b", "t.1", "u.2>3")):
    """A random code of so many lines; endless ones are thrown away."""
    while True:
        try:
            return Code(random_lines(source, many, words))
        except (Endless, TooLong):
            pass


def random_row(source, code, most=3):
    return tuple(source.randrange(len(code)) for _ in range(source.randrange(most + 1)))


def random_moves(source, most=12):
    return tuple(source.randrange(60) for _ in range(source.randrange(most + 1)))


def shuffled_twin(source, code):
    """A code with the lines of code in another order and gos between, and the new places of the old ones."""
    order = list(range(len(code)))
    source.shuffle(order)
    at, here = {}, 0
    for place in order:
        at[place] = here
        here += 1 if code[place][0] in ("go", "back") else 2
    lines = []
    for place in order:
        line = code[place]
        if line[0] == "ask":
            lines.append(("ask", line[1], tuple(at[target] for target in line[2])))
        elif line[0] in ("go", "call"):
            lines.append((line[0], at[line[1]]))
        else:
            lines.append(line)
        if line[0] not in ("go", "back"):
            lines.append(("go", at[place + 1]))
    assert all(is_line(line, len(lines)) for line in lines)
    return lines, at


def seeded(number):
    return random.Random(number)
