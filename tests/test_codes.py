import itertools
import unittest

from calltrim.codes import Code, is_line
from calltrim.errors import Endless, InvalidCode, InvalidLine, InvalidNumber, TooLong, Undefined
from support import BACK, ODD_VALUES, SMALL, caught, is_plain, random_code, random_lines, seeded

DO = ("do", "a")
NO_PLACES = [-1, True, False, None, "0", (0,), [0], SMALL, 10 ** 11]


def stairs(steps, foot, ahead=()):
    """Each step of the stair does twice what is behind it; foot makes the lines at the place where it stands."""
    lines = list(ahead)
    for _ in range(steps):
        target = len(lines) + 2
        lines += [("call", target), ("go", target)]
    return lines + foot(len(lines))


def one_deed(place):
    return [DO, BACK]


def gos(many):
    """A foot that comes to so many lines and meets no event."""
    return lambda place: [("go", place + at + 1) for at in range(many - 1)] + [BACK]


class LinesTest(unittest.TestCase):
    def test_lines(self):
        for line in [DO, ("do", "add.3.4>5"), ("ask", "t", (0,)), ("ask", "t.1", (4, 0, 4, 2)), ("go", 0),
                     ("go", 4), ("call", 0), ("call", 4), BACK]:
            self.assertIs(is_line(line, 5), True, line)

    def test_targets_at_the_end_and_past_it(self):
        for many in (0, 1, 5, 32, 33, 1000):
            for target in (many - 1, many, many + 1):
                expected = 0 <= target < many
                for line in [("go", target), ("call", target), ("ask", "t", (target,)), ("ask", "t", (0, target))]:
                    self.assertIs(is_line(line, many), expected, (line, many))

    def test_lines_where_no_code_has_so_many(self):
        self.assertIs(is_line(DO, 0), True)
        self.assertIs(is_line(BACK, 0), True)
        self.assertIs(is_line(("go", 99), 100), True)
        self.assertIs(is_line(("go", 0), 0), False)

    def test_how_many_targets(self):
        for many in range(7):
            self.assertIs(is_line(("ask", "t", (0,) * many), 1), 1 <= many <= 4)

    def test_no_lines(self):
        wrong = [
            (), ("do",), ("do", "a", 0), ("do", "A"), ("do", ""), ("do", None), ("do", ("a",)), ("do", ["a"]),
            ("ask",), ("ask", "t"), ("ask", "t", 0), ("ask", "t", [0]), ("ask", "t", ()), ("ask", "T", (0,)),
            ("ask", "t", (0,), 0), ("ask", "t", (True,)), ("ask", "t", (0, False)), ("ask", "t", (-1,)),
            ("ask", "t", ("0",)), ("ask", "t", ((0,),)), ("ask", "t", ([0],)), ("ask", "t", (None,)),
            ("go",), ("go", True), ("go", -1), ("go", "0"), ("go", (0,)), ("go", [0]), ("go", None), ("go", 0, 0),
            ("call",), ("call", False), ("call", -1), ("call", None), ("call", 0, 0), ("call", "a"),
            ("back", 0), ("back", None), ("Back",), ("stay",), ("",), (None,), (0,), (SMALL,), (["back"],),
            (("back",),), ["back"], ["do", "a"], ["go", 0], ["ask", "t", (0,)], "back", b"back", ("go", SMALL),
        ]
        for value in wrong:
            self.assertIs(is_line(value, 5), False, value)

    def test_any_value(self):
        for value in ODD_VALUES:
            self.assertIs(is_line(value, 5), value in (DO, BACK), value)

    def test_parameter_names(self):
        self.assertIs(is_line(value=BACK, many=1), True)


class CodeTest(unittest.TestCase):
    def test_attributes(self):
        code = Code(lines=[("ask", "t", (3, 2)), ("call", 0), DO, BACK])
        self.assertEqual(code.lines, (("ask", "t", (3, 2)), ("call", 0), DO, BACK))
        self.assertEqual(code.norms, (1, 2, 1, 0))
        self.assertTrue(is_plain(code.lines) and is_plain(code.norms))
        self.assertEqual(len(code), 4)
        self.assertEqual([code[place] for place in range(4)], list(code.lines))

    def test_how_many_lines(self):
        for many in (0, 1, 2, 31, 32, 33, 40):
            for lines in ([BACK] * many, (BACK,) * many):
                if 1 <= many <= 32:
                    self.assertEqual(len(Code(lines)), many)
                else:
                    self.assertIs(caught(self, InvalidCode, Code, lines).value, lines)

    def test_what_is_no_sequence(self):
        for value in [None, True, 0, 1, "", "back", SMALL, {0: BACK}, {BACK}]:
            self.assertIs(caught(self, InvalidCode, Code, value).value, value)

    def test_too_many_lines_are_told_ahead_of_wrong_ones(self):
        caught(self, InvalidCode, Code, [None] * 33)

    def test_the_first_wrong_line(self):
        wrong = ["x", ("go", 4), ["back"], ("do", "A"), ("ask", "t", [0])]
        for one, other in itertools.permutations(wrong, 2):
            self.assertIs(caught(self, InvalidLine, Code, [BACK, one, other, BACK]).line, one)
        for value in ODD_VALUES:
            if value not in (DO, BACK):
                self.assertIs(caught(self, InvalidLine, Code, (BACK, value, BACK)).line, value)

    def test_a_last_line_that_goes_on(self):
        for line in [DO, ("ask", "t", (0,)), ("call", 0)]:
            self.assertEqual(caught(self, InvalidLine, Code, [line]).line, line)
            self.assertEqual(caught(self, InvalidLine, Code, [BACK, line]).line, line)
            self.assertEqual(caught(self, InvalidLine, Code, [line, ("go", 7), line]).line, ("go", 7))
        self.assertEqual(len(Code([BACK, ("go", 0)])), 2)

    def test_a_wrong_line_is_told_ahead_of_endless_ones(self):
        self.assertEqual(caught(self, InvalidLine, Code, [("go", 0), DO]).line, DO)

    def test_endless_places(self):
        cases = [
            ([("go", 0)], 0), ([BACK, ("go", 1)], 1), ([BACK, ("call", 1), BACK], 1),
            ([DO, ("go", 0), BACK], 0), ([BACK, DO, ("ask", "t", (1, 2)), ("go", 1)], 1),
            ([("call", 2), BACK, DO, ("go", 2)], 0), ([BACK, ("call", 0), ("call", 3), ("go", 2)], 1),
            ([("ask", "t", (2,)), ("call", 0), BACK], None), ([("ask", "t", (2,)), ("go", 1), BACK], 1),
            ([("call", 1), ("go", 0)], 0), ([BACK, ("call", 3), BACK, ("call", 1), BACK], 1),
        ]
        for lines, place in cases:
            if place is None:
                Code(lines)
            else:
                self.assertEqual(caught(self, Endless, Code, lines).place, place, lines)

    def test_norms_by_trying(self):
        source = seeded(1)
        for _ in range(400):
            lines = random_lines(source, source.randrange(1, 9))
            norms, lengths = least_by_trying(lines, 0), least_by_trying(lines, 1)
            try:
                self.assertEqual(list(Code(lines).norms), norms)
                self.assertNotIn(None, norms)
            except Endless as error:
                self.assertEqual(error.place, norms.index(None))
            except TooLong as error:
                self.assertNotIn(None, norms)
                over = [norm > 32 or length > 200 for norm, length in zip(norms, lengths)]
                self.assertEqual(error.place, over.index(True))

    def test_recursion(self):
        code = Code([("ask", "t", (3,)), ("call", 0), ("call", 0), BACK])
        self.assertEqual(code.norms, (1, 2, 1, 0))

    def test_norms_of_32_and_33(self):
        self.assertEqual(Code([DO] * 31 + [BACK]).norms[0], 31)
        code = Code(stairs(5, one_deed))
        self.assertEqual(code.norms, (32, 16, 16, 8, 8, 4, 4, 2, 2, 1, 1, 0))
        self.assertEqual(caught(self, TooLong, Code, stairs(5, one_deed, [DO])).place, 0)
        self.assertEqual(caught(self, TooLong, Code, stairs(5, one_deed, [BACK, DO])).place, 1)
        self.assertEqual(caught(self, TooLong, Code, stairs(6, one_deed)).place, 0)
        self.assertEqual(caught(self, TooLong, Code, stairs(6, one_deed, [BACK] * 3)).place, 3)

    def test_lengths_of_calls_and_gos_that_meet_no_event(self):
        lengths = []
        for steps in range(7):
            for many in range(1, 33 - 2 * steps):
                lines = stairs(steps, gos(many))
                length = least_by_trying(lines, 1)[0]
                lengths.append(length)
                self.assertEqual(least_by_trying(lines, 0), [0] * len(lines))
                if length > 200:
                    self.assertEqual(caught(self, TooLong, Code, lines).place, 0)
                else:
                    self.assertEqual(Code(lines).norms, (0,) * len(lines))
        self.assertGreater(max(lengths), 200)

    def test_lengths_of_200_and_201(self):
        # 190 lines from place 1 on; the call ahead of them adds itself and the end of the foot
        self.assertEqual(least_by_trying(stairs(3, gos(22)), 1)[0], 190)
        long = stairs(3, gos(22), [("call", 20)])
        self.assertEqual(least_by_trying(long, 1)[:2], [200, 190])
        self.assertEqual(Code(long).norms, (0,) * 29)
        longer = stairs(3, gos(22), [("call", 19)])
        self.assertEqual(least_by_trying(longer, 1)[:2], [201, 190])
        self.assertEqual(caught(self, TooLong, Code, longer).place, 0)
        self.assertEqual(caught(self, TooLong, Code, stairs(3, gos(22), [BACK, ("call", 20)])).place, 1)

    def test_endless_is_told_ahead_of_too_long(self):
        lines = stairs(6, one_deed) + [("go", 14)]
        self.assertEqual(caught(self, Endless, Code, lines).place, 14)

    def test_places_that_are_none(self):
        code = Code([DO, BACK])
        for value in [*NO_PLACES, 2, 3]:
            self.assertIs(caught(self, InvalidNumber, code.__getitem__, value).value, value)
            self.assertIs(caught(self, InvalidNumber, code.leads, value).value, value)

    def test_leads(self):
        code = Code([("ask", "t", (3, 2, 0, 3)), DO, ("call", 3), BACK])
        self.assertEqual(code.leads(0), (1, 3, 2, 0, 3))
        self.assertEqual(code.leads(place=1), (2,))
        self.assertTrue(is_plain(code.leads(0)))
        for place in (2, 3):
            self.assertEqual(caught(self, Undefined, code.leads, place).what, "event")
        self.assertEqual(caught(self, Undefined, Code([("go", 1), BACK]).leads, 0).what, "event")

    def test_a_list_that_is_changed_later(self):
        lines = [DO, BACK]
        code = Code(lines)
        lines[0] = ("do", "b")
        lines.append(BACK)
        self.assertEqual(code.lines, (DO, BACK))
        self.assertEqual(code, Code((DO, BACK)))

    def test_equality(self):
        code = Code([DO, BACK])
        self.assertTrue(code == Code((DO, BACK)))
        self.assertFalse(code != Code((DO, BACK)))
        self.assertFalse(code == Code([DO, BACK, BACK]))
        self.assertTrue(code != Code([("do", "b"), BACK]))
        for value in [*ODD_VALUES, (DO, BACK), [DO, BACK], str(code), code.lines]:
            self.assertIs(code == value, False)
            self.assertIs(code != value, True)
            self.assertIs(value == code, False)

    def test_a_code_is_not_iterable(self):
        code = Code([DO, BACK])
        for call in (iter, list, tuple, lambda value: [*value], lambda value: BACK in value):
            with self.assertRaises(TypeError):
                call(code)

    def test_norms_stay_with_random_codes(self):
        source = seeded(2)
        for _ in range(30):
            code = random_code(source, source.randrange(1, 33))
            self.assertEqual(list(code.norms), least_by_trying(code.lines, 0))


def least_by_trying(lines, silent):
    """The least norms (silent 0) or lengths (silent 1), in plain rounds from the equations."""
    found = [None] * len(lines)
    for _ in range(len(lines) + 1):
        ahead = list(found)
        for place, line in enumerate(lines):
            if line[0] == "back":
                found[place] = silent
                continue
            if line[0] in ("do", "ask"):
                follow = [(lead,) for lead in (place + 1, *(line[2] if line[0] == "ask" else ()))]
                cost = 1
            else:
                follow = [(line[1],) if line[0] == "go" else (line[1], place + 1)]
                cost = silent
            sums = [cost + sum(ahead[part] for part in row) for row in follow
                    if all(ahead[part] is not None for part in row)]
            found[place] = min(sums) if sums else None
    return found
