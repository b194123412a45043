import unittest

from calltrim.codes import Code, joined
from calltrim.errors import (
    Endless, InvalidCode, InvalidLine, InvalidNumber, TooLarge, TooLong, TrimError,
)
from support import BACK, ODD_VALUES, SMALL, caught, is_plain, random_code, random_line, seeded

DO = ("do", "a")
LOOP = Code([("ask", "t", (0, 3)), ("call", 2), DO, ("go", 4), BACK])
NO_PLACES = [-1, True, False, None, "0", (0,), [0], SMALL, 10 ** 11]
NO_LINES = [value for value in ODD_VALUES if value not in (DO, BACK)]


def changed(line, change):
    if line[0] == "ask":
        return ("ask", line[1], tuple(change(target) for target in line[2]))
    return (line[0], change(line[1])) if line[0] in ("go", "call") else line


def made(make):
    """The lines of the code that is made, or the class and the attributes of the error."""
    try:
        return make().lines
    except TrimError as error:
        return type(error), vars(error)


class PutTest(unittest.TestCase):
    def test_at_0_in_the_middle_and_at_the_end(self):
        self.assertEqual(
            LOOP.put(0, ("call", 3)).lines,
            (("call", 3), ("ask", "t", (1, 4)), ("call", 3), DO, ("go", 5), BACK))
        self.assertEqual(
            LOOP.put(3, ("ask", "u", (3, 4))).lines,
            (("ask", "t", (0, 4)), ("call", 2), DO, ("ask", "u", (3, 4)), ("go", 5), BACK))
        self.assertEqual(LOOP.put(5, ("go", 2)).lines, (*LOOP.lines, ("go", 2)))
        self.assertEqual(LOOP.put(5, BACK).lines, (*LOOP.lines, BACK))

    def test_targets_of_the_new_line_are_places_of_the_new_code(self):
        self.assertEqual(SMALL.put(0, ("go", 1)).lines, (("go", 1), BACK))
        self.assertEqual(caught(self, InvalidLine, SMALL.put, 0, ("go", 2)).line, ("go", 2))
        self.assertEqual(caught(self, Endless, SMALL.put, 0, ("go", 0)).place, 0)

    def test_past_the_end_and_no_places(self):
        for value in [*NO_PLACES, 6, 7]:
            self.assertIs(caught(self, InvalidNumber, LOOP.put, value, BACK).value, value)

    def test_with_31_and_32_lines(self):
        code = Code([BACK] * 31)
        full = code.put(31, BACK)
        self.assertEqual(len(full), 32)
        for place in (0, 16, 32):
            self.assertEqual(caught(self, TooLarge, full.put, place, None).many, 33)
        self.assertEqual(caught(self, InvalidNumber, full.put, 33, None).value, 33)

    def test_lines_that_are_none(self):
        for line in NO_LINES:
            self.assertIs(caught(self, InvalidLine, LOOP.put, 2, line).line, line)
        self.assertEqual(caught(self, InvalidLine, LOOP.put, 5, DO).line, DO)
        self.assertEqual(caught(self, InvalidLine, LOOP.put, 5, ("call", 0)).line, ("call", 0))

    def test_an_endless_or_too_long_code(self):
        self.assertEqual(caught(self, Endless, LOOP.put, 3, ("go", 1)).place, 1)
        deeds = Code([("call", 2), BACK, ("call", 4), ("go", 4), *[DO] * 15, BACK])
        self.assertEqual(deeds.norms[0], 30)
        self.assertEqual(deeds.put(4, DO).norms[0], 30)
        self.assertEqual(caught(self, TooLong, deeds.put(5, DO).put, 5, DO).place, 0)


class TakeTest(unittest.TestCase):
    def test_targets_at_ahead_of_and_behind_the_place(self):
        self.assertEqual(LOOP.take(0).lines, (("call", 1), DO, ("go", 3), BACK))
        self.assertEqual(LOOP.take(1).lines, (("ask", "t", (0, 2)), DO, ("go", 3), BACK))
        self.assertEqual(LOOP.take(2).lines, (("ask", "t", (0, 2)), ("call", 2), ("go", 3), BACK))
        self.assertEqual(LOOP.take(3).lines, (("ask", "t", (0, 3)), ("call", 2), DO, BACK))

    def test_the_last_line(self):
        self.assertEqual(caught(self, InvalidLine, LOOP.take, 4).line, ("go", 4))
        self.assertEqual(caught(self, InvalidLine, Code([DO, BACK]).take, 1).line, DO)
        self.assertEqual(Code([BACK, BACK]).take(1).lines, (BACK,))

    def test_a_code_of_one_line(self):
        self.assertEqual(caught(self, InvalidCode, SMALL.take, 0).value, ())

    def test_no_places(self):
        for value in [*NO_PLACES, 5, 6]:
            self.assertIs(caught(self, InvalidNumber, LOOP.take, value).value, value)

    def test_a_place_with_no_return(self):
        self.assertEqual(caught(self, Endless, Code([BACK, DO, BACK, ("go", 1)]).take, 2).place, 1)


class TurnTest(unittest.TestCase):
    def test_turned_lines(self):
        self.assertEqual(LOOP.turn(1, DO).lines, (LOOP[0], DO, *LOOP.lines[2:]))
        self.assertEqual(SMALL.turn(0, BACK).lines, (BACK,))
        self.assertEqual(LOOP.turn(place=3, line=BACK).lines, (*LOOP.lines[:3], BACK, BACK))

    def test_no_places(self):
        for value in [*NO_PLACES, 5, 6]:
            self.assertIs(caught(self, InvalidNumber, LOOP.turn, value, None).value, value)

    def test_lines_that_are_none(self):
        for line in [*NO_LINES, ("go", 5), ("ask", "t", [0])]:
            self.assertIs(caught(self, InvalidLine, LOOP.turn, 2, line).line, line)
        self.assertEqual(caught(self, InvalidLine, LOOP.turn, 4, DO).line, DO)

    def test_a_place_with_no_return(self):
        self.assertEqual(caught(self, Endless, LOOP.turn, 4, ("go", 3)).place, 0)
        self.assertEqual(caught(self, Endless, SMALL.turn, 0, ("go", 0)).place, 0)


class EditsTest(unittest.TestCase):
    def test_random_edits(self):
        source = seeded(3)
        for _ in range(300):
            code = random_code(source, source.randrange(1, 9))
            before = code.lines
            many = len(code)
            place = source.randrange(many)
            line = random_line(source, many, ["a", "b"], False)
            up = [changed(old, lambda target: target + (target >= place)) for old in before]
            self.assertEqual(made(lambda: code.put(place, line)), made(lambda: Code(up[:place] + [line] + up[place:])))
            down = [changed(old, lambda target: target - (target > place)) for old in before]
            self.assertEqual(made(lambda: code.take(place)), made(lambda: Code(tuple(down[:place] + down[place + 1:]))))
            turned = [*before[:place], line, *before[place + 1:]]
            self.assertEqual(made(lambda: code.turn(place, line)), made(lambda: Code(turned)))
            self.assertEqual(code.lines, before)

    def test_put_and_take_lead_back(self):
        source = seeded(4)
        for _ in range(100):
            code = random_code(source, source.randrange(1, 12))
            for place in range(len(code) + 1):
                longer = code.put(place, BACK)
                self.assertTrue(is_plain(longer.lines))
                self.assertEqual(longer.take(place), code)


class JoinedTest(unittest.TestCase):
    def test_joined(self):
        both = joined(LOOP, LOOP)
        moved = tuple(changed(line, lambda target: target + 5) for line in LOOP.lines)
        self.assertEqual(both.lines, LOOP.lines + moved)
        self.assertEqual(both.norms, LOOP.norms * 2)
        self.assertEqual(LOOP + LOOP, both)
        self.assertEqual(joined(one=SMALL, other=LOOP), SMALL + LOOP)
        self.assertNotEqual(SMALL + LOOP, LOOP + SMALL)
        self.assertIs(type(LOOP + SMALL), Code)

    def test_up_to_32_lines_and_above(self):
        for one, other in ((1, 31), (16, 16), (31, 1), (1, 32), (32, 1), (32, 32), (17, 17)):
            left, right = Code([BACK] * one), Code([BACK] * other)
            if one + other <= 32:
                self.assertEqual(len(joined(left, right)), one + other)
                self.assertEqual(len(left + right), one + other)
            else:
                self.assertEqual(caught(self, TooLarge, joined, left, right).many, one + other)
                self.assertEqual(caught(self, TooLarge, lambda: left + right).many, one + other)

    def test_only_codes_are_added(self):
        for value in (None, 1, "back", (BACK,), [BACK]):
            with self.assertRaises(TypeError):
                LOOP + value

    def test_the_old_codes_stay(self):
        one, other = Code([DO, BACK]), Code([("go", 1), BACK])
        one + other
        self.assertEqual((one.lines, other.lines), ((DO, BACK), (("go", 1), BACK)))
