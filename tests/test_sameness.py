import unittest

from calltrim.codes import Code
from calltrim.errors import InvalidLine, Endless, InvalidRow, TooLong, Undefined
from calltrim.runs import run
from calltrim.sameness import alike, parting, parting_holds
from reference import CodeRules, differing_moves, run_of
from refactored import random_pair
from support import (
    BACK, ODD_VALUES, SMALL, caught, is_plain, random_code, random_line, random_moves, random_row, seeded,
    shuffled_twin,
)

DO = ("do", "a")
LOOP = Code([("ask", "t", (3,)), DO, ("go", 0), BACK])
NO_ROWS = [[], [0], (4,), (0, 4), (-1,), (True,), ((0,),), (0,) * 7, None, 0, "", SMALL]


def stair(steps, foot):
    lines = []
    for step in range(steps):
        lines += [("call", 2 * step + 2), ("go", 2 * step + 2)]
    return Code(lines + foot)


class SamenessTest(unittest.TestCase):
    def assert_same(self, one, left, other, right):
        self.assertIs(alike(one, left, other, right), True)
        self.assertIs(alike(other, right, one, left), True)
        self.assertEqual(caught(self, Undefined, parting, one, left, other, right).what, "alike")
        self.assertEqual(caught(self, Undefined, parting, other, right, one, left).what, "alike")

    def assert_unlike(self, one, left, other, right):
        for given in ((one, left, other, right), (other, right, one, left)):
            self.assertIs(alike(*given), False)
            moves = parting(*given)
            self.assertTrue(is_plain(moves))
            self.assertEqual(parting(*given), moves)
            mine = run_of(CodeRules(given[0]), given[1], moves)
            self.assertNotEqual(mine, run_of(CodeRules(given[2]), given[3], moves))
            self.assertIs(parting_holds(*given, moves), True)

    def compare(self, one, left, other, right, most=200):
        """Compares with the states that a search sees; returns what alike returns."""
        moves, whole = differing_moves(CodeRules(one), left, CodeRules(other), right, most)
        if alike(one, left, other, right):
            self.assertIsNone(moves, (one.lines, left, other.lines, right))
            self.assert_same(one, left, other, right)
        else:
            self.assertFalse(whole, (one.lines, left, other.lines, right))
            self.assert_unlike(one, left, other, right)
        return alike(one, left, other, right)

    def test_small_ones(self):
        self.assert_same(SMALL, (), SMALL, (0, 0))
        self.assert_same(LOOP, (3,), SMALL, ())
        self.assert_same(LOOP, (0,), LOOP, (2,))
        self.assert_same(LOOP, (1,), LOOP, (1, 3))
        self.assert_unlike(LOOP, (0,), LOOP, (1,))
        self.assert_unlike(LOOP, (0,), LOOP, (0, 0))
        self.assert_unlike(LOOP, (0,), LOOP, ())
        self.assertEqual(parting(LOOP, (), LOOP, (0,)), ())

    def test_a_do_line_is_no_ask_line_of_the_same_word(self):
        ask = Code([("ask", "a", (1,)), BACK])
        self.assert_unlike(ask, (0,), Code([DO, BACK]), (0,))
        self.assert_unlike(ask, (0,), Code([("ask", "a", (1, 1)), BACK]), (0,))

    def test_a_row_with_itself_and_with_one_place_more(self):
        source = seeded(20)
        for _ in range(60):
            code = random_code(source, source.randrange(1, 33))
            row, place = random_row(source, code, 5), source.randrange(len(code))
            self.assert_same(code, row, code, row)
            self.assert_same(code, row, Code(list(code.lines)), row)
            self.assertEqual(alike(code, row, code, (place,) + row), code.norms[place] == 0)
            self.assertEqual(alike(code, row, code, row + (place,)), code.norms[place] == 0)
            self.compare(code, (place,) + row, code, row + (place,))

    def test_random_rows(self):
        source = seeded(21)
        for _ in range(150):
            words = source.choice(["a", "ab", ("a", "b", "t.1")])
            one, other = (random_code(source, source.randrange(1, 12), words) for _ in range(2))
            for _ in range(4):
                self.compare(one, random_row(source, one), other, random_row(source, other))
                self.compare(one, random_row(source, one), one, random_row(source, one))

    def test_codes_of_32_lines(self):
        source = seeded(22)
        for _ in range(30):
            one, other = random_code(source, 32, "ab"), random_code(source, 32, "ab")
            for _ in range(4):
                self.compare(one, random_row(source, one, 6), other, random_row(source, other, 6))

    def test_a_code_and_a_twin_of_it(self):
        source = seeded(23)
        for _ in range(80):
            code = random_code(source, source.randrange(1, 17), "ab")
            lines, at = shuffled_twin(source, code)
            twin = Code(lines)
            for place in range(len(code)):
                self.assert_same(code, (place,), twin, (at[place],))
            row = random_row(source, code, 6)
            self.assert_same(code, row, twin, tuple(at[place] for place in row))
            self.assert_same(code + SMALL, row, SMALL + code, tuple(place + 1 for place in row))

    def test_single_deeds_called(self):
        source = seeded(24)
        for _ in range(60):
            code = random_code(source, source.randrange(1, 16), "ab")
            many = len(code)
            lines = [("call", many) if line == DO else line for line in code.lines]
            twin = Code(lines + [DO, BACK])
            for place in range(many):
                self.assert_same(code, (place,), twin, (place,))

    def test_a_line_put_in_ahead_of_all_others(self):
        source = seeded(25)
        for _ in range(60):
            code = random_code(source, source.randrange(1, 20), "ab")
            row = random_row(source, code)
            longer = code.put(0, DO)
            self.assert_same(code, row, longer, tuple(place + 1 for place in row))
            self.assert_unlike(code, row, longer, (0, *(place + 1 for place in row)))

    def test_a_twin_with_one_line_changed(self):
        source = seeded(26)
        unlike = 0
        for _ in range(150):
            code = random_code(source, source.randrange(1, 14), "ab")
            lines, at = shuffled_twin(source, code)
            place = source.randrange(len(lines))
            try:
                twin = Code(lines).turn(place, random_line(source, len(lines), "ab", place == len(lines) - 1))
            except (Endless, TooLong, InvalidLine):
                continue
            for place in range(0, len(code), 3):
                unlike += not self.compare(code, (place,), twin, (at[place],))
        self.assertGreater(unlike, 30)

    def test_codes_of_other_pieces(self):
        source = seeded(27)
        for _ in range(150):
            one, other = random_pair(source)
            self.assert_same(one, (0,), other, (0,))
            left, right = random_row(source, one), random_row(source, other)
            if len(one) + len(other) <= 32:
                self.assert_same(one, (0, *left), one + other, (len(one), *left))
            self.compare(one, left, other, right)

    def test_recursion(self):
        nested = Code([("ask", "t", (4,)), ("call", 0), DO, BACK, BACK])
        flat = Code([("ask", "t", (3,)), DO, ("go", 0), BACK])
        self.assert_unlike(nested, (0,), flat, (0,))
        twice = Code([("ask", "t", (3,)), ("call", 0), ("go", 0), BACK])
        self.assert_same(twice, (0, 0), twice, (1,))
        self.assert_unlike(twice, (0, 0), twice, (0,))
        counted = Code([("ask", "t", (3,)), ("call", 4), ("go", 4), BACK, ("go", 0)])
        self.assert_same(twice, (1, 0), counted, (0, 4, 2))
        self.assert_unlike(twice, (1, 0), counted, (1, 0, 0))

    def test_stairs_of_calls(self):
        deeds = [DO] * 31 + [BACK]
        row = Code(deeds)
        for steps in range(6):
            code = stair(steps, [DO, BACK])
            self.assertEqual(code.norms[0], 2 ** steps)
            places = (31 - 2 ** steps,) if steps < 5 else (0, 30)
            self.assert_same(code, (0,), row, places)
            self.assert_unlike(code, (0,), row, places + (30,))
            self.assert_unlike(code, (0,), row, (31,))
        one, other = stair(5, [DO, BACK]), stair(5, [("do", "b"), BACK])
        self.assert_same(one, (0,) * 5 + (1,), one, (1,) + (0,) * 5)
        self.assert_unlike(one, (0,) * 6, other, (0,) * 6)
        self.assert_unlike(one, (0,) * 5 + (1,), one, (0,) * 6)
        self.assert_same(one, (0,), one, (1, 2))
        tests = stair(4, [("ask", "t", (8,)), DO, BACK])
        self.assert_unlike(tests, (0,), stair(4, [("ask", "t", (10,)), DO, BACK]), (0,))
        self.assert_same(tests, (0,), tests, (1, 3, 4))

    def test_unlike_at_one_answer_but_the_other_row_follows_it(self):
        # behind t the left row does d, b or d, c; the right one does d, c in any case
        code = Code([("ask", "t", (5,)), ("do", "e"), ("do", "d"), ("do", "b"), BACK, ("do", "e"), ("do", "d"),
                     ("do", "c"), BACK, ("ask", "t", (10,)), ("do", "e"), BACK])
        self.assert_unlike(code, (0,), code, (9, 6))
        self.assert_unlike(code, (0,), code, (9, 2))
        self.assert_unlike(code, (0, 6), code, (9, 6, 6))
        self.assert_unlike(code, (0, 9), code, (9, 6, 0))
        short = Code([("ask", "t", (3,)), ("do", "b"), BACK, ("do", "c"), BACK, ("ask", "t", (6,)), BACK])
        self.assert_unlike(short, (0,), short, (5, 3))
        self.assert_unlike(short, (0,), short, (5, 1))
        self.assertEqual(parting(short, (0,), short, (5, 3)), (0,))

    def test_unlike_behind_rows_that_come_together(self):
        # x does as much as y twice; behind them p and q differ at one answer
        code = Code([DO, DO, BACK, ("ask", "t", (6,)), ("do", "d"), BACK, ("do", "b"), BACK,
                     ("ask", "t", (11,)), ("do", "d"), BACK, ("do", "c"), BACK])
        self.assert_unlike(code, (0, 3), code, (1, 1, 8))
        self.assert_unlike(code, (0, 1, 3), code, (1, 0, 8))
        self.assert_unlike(code, (3, 0, 3), code, (3, 1, 1, 8))
        self.assertEqual(parting(code, (0, 3), code, (1, 1, 8)), (0, 0, 1))
        asked = Code([("ask", "s", (2,)), ("ask", "s", (2,)), BACK, *code.lines[3:]])
        self.assertEqual(asked.norms[0], 1)
        self.assert_unlike(asked, (0, 3), asked, (0, 8))

    def test_rows_of_unlike_norms(self):
        code = Code([DO, DO, DO, BACK])
        for one in range(4):
            for other in range(4):
                if one != other:
                    self.assert_unlike(code, (one,), code, (other,))
        self.assertEqual(parting(code, (1,), code, (0,)), (0, 0))

    def test_errors_in_their_order(self):
        for value in NO_ROWS:
            for call in (alike, parting):
                self.assertIs(caught(self, InvalidRow, call, LOOP, value, LOOP, (0,)).value, value)
                self.assertIs(caught(self, InvalidRow, call, LOOP, (0,), LOOP, value).value, value)
                self.assertIs(caught(self, InvalidRow, call, LOOP, value, LOOP, "other").value, value)
        caught(self, InvalidRow, alike, LOOP, (3,), SMALL, (3,))
        caught(self, Undefined, parting, one=LOOP, left=(3,), other=SMALL, right=(0,))

    def test_parting_holds_by_the_runs(self):
        source = seeded(28)
        for _ in range(200):
            one, other = random_code(source, 5, "a"), random_code(source, 5, "a")
            left, right, moves = random_row(source, one), random_row(source, other), random_moves(source, 5)
            expected = run(one, left, moves) != run(other, right, moves)
            self.assertIs(parting_holds(one, left, other, right, moves), expected)

    def test_parting_holds_of_what_is_none(self):
        for value in [*ODD_VALUES, [0], (0, True), (-1,), None]:
            if value not in ((), (0,)):
                self.assertIs(parting_holds(LOOP, (0,), LOOP, (1,), value), False, value)
        for value in NO_ROWS:
            self.assertIs(parting_holds(LOOP, value, LOOP, (1,), ()), False)
            self.assertIs(parting_holds(LOOP, (1,), LOOP, value, ()), False)
        self.assertIs(parting_holds(one=LOOP, left=(0,), other=LOOP, right=(1,), value=()), True)
        self.assertIs(parting_holds(LOOP, (0,), LOOP, (0,), ()), False)
