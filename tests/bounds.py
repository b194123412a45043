"""Codes near the bounds: 32 lines, norms near 32, lengths near 200, stairs of calls."""

from calltrim.codes import Code
from calltrim.errors import Endless, TooLong
from calltrim.norms import lengths_of
from support import BACK

DO = ("do", "a")


def stair(steps, foot):
    """Each step calls the next one and goes on to it, so that the norm doubles."""
    lines = []
    for step in range(steps):
        lines += [("call", 2 * step + 2), ("go", 2 * step + 2)]
    return Code(lines + foot)


def calls_15_deep():
    lines = []
    for step in range(15):
        lines += [("call", 2 * step + 2), BACK]
    return Code(lines + [DO, BACK])


def long_code():
    """A code whose place 0 has the length 200, by calls that meet no event."""
    return Code([("call", 11)] * 9 + [DO, BACK] + [("call", 21)] * 10 + [BACK])


def random_long_code(source, words="ab"):
    """A random code of 32 lines whose targets mostly lie ahead, so that norms come near 32."""
    while True:
        shares = source.choice([(0.1, 0.1), (0.2, 0.3), (0.0, 0.5), (0.3, 0.05)])
        lines = [random_long_line(source, words, at, *shares) for at in range(31)] + [BACK]
        try:
            code = Code(lines)
        except (Endless, TooLong):
            continue
        return code


def random_long_line(source, words, at, calls, asks):
    def target():
        return source.randrange(at + 1, 32) if source.random() < 0.9 else source.randrange(32)

    turn = source.random()
    if turn < calls:
        return ("call", target())
    if turn < calls + asks:
        return ("ask", source.choice(words), tuple(target() for _ in range(source.choice([1, 1, 2, 4]))))
    return ("go", target()) if turn > 0.96 else ("do", source.choice(words))


def codes_near_the_bounds():
    codes = [
        Code([DO] * 31 + [BACK]),
        Code([("ask", "t", (31,))] * 31 + [BACK]),
        Code([("ask", "t", (at + 1, max(at - 1, 0))) for at in range(31)] + [BACK]),
        Code([("ask", "t", (at + 1, 0, at + 1, 0)) for at in range(31)] + [BACK]),
        Code([("ask", "t", (at // 2,)) for at in range(31)] + [BACK]),
        stair(5, [DO, BACK]), stair(4, [("ask", "t", (8,)), DO, BACK]), calls_15_deep(), long_code(),
    ]
    assert lengths_of(codes[-1].lines)[0] == 200
    return codes
