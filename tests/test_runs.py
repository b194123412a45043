import itertools
import unittest

from calltrim.codes import Code
from calltrim.errors import InvalidMoves, InvalidRow
from calltrim.runs import front, is_moves, is_row, returns, row_norm, run, shortest
from reference import CodeRules, front_of, level_of, rows_at_level, run_of
from support import BACK, ODD_VALUES, SMALL, caught, is_plain, random_code, random_moves, random_row, seeded

CODE = Code([("ask", "t", (4, 5)), ("call", 3), ("go", 0), ("do", "a"), BACK, ("go", 2)])
NO_ROWS = [value for value in ODD_VALUES if value not in ((), (0,))] + [
    [], [0], [0, 1], (6,), (0, 6), (7,), (-1,), (0, -1), (True,), (0, False), ((0,),), ([0],), ("0",), (0,) * 7,
    (None,), 0, "", (0, 1, 2, 3, 4, 5, 0), (SMALL,), (10 ** 11,)]
NO_MOVES = [value for value in ODD_VALUES if value not in ((), (0,))] + [
    [], [0], (True,), (0, False), (-1,), (0, -1), ("0",), ((0,),), ([0],), (None,), (0,) * 9 + (SMALL,), range(2)]


class RowsTest(unittest.TestCase):
    def test_rows(self):
        for value in [(), (0,), (5,), (0, 0, 0, 0, 0, 0), (0, 1, 2, 3, 4, 5)]:
            self.assertIs(is_row(CODE, value), True)
        self.assertIs(is_row(code=SMALL, value=(0,)), True)
        self.assertIs(is_row(SMALL, (1,)), False)

    def test_no_rows(self):
        for value in NO_ROWS:
            self.assertIs(is_row(CODE, value), False, value)
            for call in (row_norm, front, shortest):
                self.assertIs(caught(self, InvalidRow, call, CODE, value).value, value)
            for call in (run, returns):
                self.assertIs(caught(self, InvalidRow, call, CODE, value, (1,)).value, value)
                self.assertIs(caught(self, InvalidRow, call, CODE, value, None).value, value)

    def test_norms(self):
        self.assertEqual(CODE.norms, (1, 2, 1, 1, 0, 1))
        self.assertEqual(row_norm(CODE, ()), 0)
        self.assertEqual(row_norm(CODE, (1, 1, 4, 0)), 5)
        self.assertEqual(row_norm(code=Code([("do", "a")] * 31 + [BACK]), row=(0,) * 6), 186)

    def test_front(self):
        self.assertEqual(front(CODE, ()), ())
        self.assertEqual(front(CODE, (0,)), (0,))
        self.assertEqual(front(CODE, (5,)), (0,))
        self.assertEqual(front(CODE, (4, 4, 4)), ())
        self.assertEqual(front(CODE, (1,)), (3, 2))
        self.assertEqual(front(CODE, (4, 1, 5, 4, 1, 4)), (3, 2, 5, 1))
        self.assertTrue(is_plain(front(CODE, (1,))))
        self.assertEqual(front(CODE, (3, 4, 4, 2)), (3, 2))

    def test_a_front_of_more_than_six_members(self):
        code = Code([("call", 2), ("go", 2), ("call", 4), ("go", 4), ("call", 6), ("go", 6), ("do", "a"), BACK])
        self.assertEqual(front(code, (0, 0)), (6, 5, 3, 1, 0))
        self.assertEqual(front(code, (0,) * 6), (6, 5, 3, 1, 0, 0, 0, 0, 0))
        self.assertEqual(front(code, (2, 7, 0)), (6, 5, 3, 0))

    def test_front_as_written(self):
        source = seeded(6)
        for _ in range(300):
            code = random_code(source, source.randrange(1, 20))
            row = random_row(source, code, 6)
            self.assertEqual(front(code, row), front_of(code, row))
            self.assertEqual(row_norm(code, row), sum(code.norms[place] for place in front(code, row)))


class RunsTest(unittest.TestCase):
    def test_moves(self):
        for value in [(), (0,), (1, 0, 5), (10 ** 12 - 1,), (3,) * 400]:
            self.assertIs(is_moves(value), True)

    def test_no_moves(self):
        for value in NO_MOVES:
            self.assertIs(is_moves(value), False, value)
            self.assertIs(caught(self, InvalidMoves, run, CODE, (0,), value).value, value)
            self.assertIs(caught(self, InvalidMoves, returns, CODE, (0,), value).value, value)

    def test_a_run(self):
        self.assertEqual(run(CODE, (0,), ()), (("t", 3),))
        self.assertEqual(run(CODE, (0,), (0,)), (("t", 3, 0), ("a", 1)))
        self.assertEqual(run(CODE, (0,), (0, 7)), (("t", 3, 0), ("a", 1, 0), ("t", 3)))
        self.assertEqual(run(CODE, (0,), (0, 7, 1)), (("t", 3, 0), ("a", 1, 0), ("t", 3, 1), ()))
        self.assertEqual(run(CODE, (0,), (1, 9, 9)), (("t", 3, 1), ()))
        self.assertEqual(run(CODE, (0,), (5, 4)), (("t", 3, 2), ("t", 3, 1), ()))
        self.assertEqual(run(CODE, (0,), (10 ** 12 - 1,)), (("t", 3, 0), ("a", 1)))
        self.assertEqual(run(CODE, (), (1,)), ((),))
        self.assertEqual(run(CODE, (4, 4), ()), ((),))
        self.assertTrue(is_plain(run(CODE, (0,), (0, 7, 1))))

    def test_returns(self):
        self.assertIs(returns(CODE, (), ()), True)
        self.assertIs(returns(CODE, (0,), ()), False)
        self.assertIs(returns(CODE, (0,), (1,)), True)
        self.assertIs(returns(CODE, (0, 3), (1,)), False)
        self.assertIs(returns(code=CODE, row=(0, 3), moves=(1, 6, 3)), True)

    def test_runs_as_written(self):
        source = seeded(7)
        for _ in range(300):
            code = random_code(source, source.randrange(1, 25))
            row, moves = random_row(source, code, 6), random_moves(source, 30)
            told = run(code, row, moves)
            self.assertEqual(told, run_of(CodeRules(code), row, moves))
            self.assertEqual(returns(code, row, moves), told[-1] == ())
            # fewer moves tell the same but for the last thing
            for many in range(min(len(moves), len(told) - 1)):
                fewer = run(code, row, moves[:many])
                self.assertEqual(fewer[:-1], told[:many])
                self.assertEqual(fewer[-1], told[many][:2])

    def test_400_moves_of_a_recursion_that_grows(self):
        code = Code([("ask", "t", (3,)), ("call", 0), ("call", 0), BACK])
        told = run(code, (0,) * 6, (0,) * 400)
        self.assertEqual(told, (("t", 2, 0),) * 400 + (("t", 2),))
        wide = Code([("ask", "t", (31,))] + [("call", 0)] * 30 + [BACK])
        self.assertEqual(len(run(wide, (0,), (2,) * 400)), 401)
        source = seeded(8)
        for figures in (1, 12):
            moves = tuple(source.randrange(10 ** figures) for _ in range(400))
            self.assertEqual(run(code, (0,), moves), run_of(CodeRules(code), (0,), moves))

    def test_two_rows_run_one_behind_the_other(self):
        source = seeded(9)
        for _ in range(100):
            code = random_code(source, source.randrange(1, 15))
            one, other = random_row(source, code), random_row(source, code)
            moves = shortest(code, one)
            more = random_moves(source)
            self.assertEqual(run(code, one + other, moves + more), run(code, one, moves)[:-1] + run(code, other, more))

    def test_rows_of_joined_codes(self):
        source = seeded(10)
        for _ in range(100):
            one, other = (random_code(source, source.randrange(1, 16)) for _ in range(2))
            row, moves = random_row(source, other), random_moves(source)
            moved = tuple(place + len(one) for place in row)
            self.assertEqual(run(one + other, moved, moves), run(other, row, moves))
            row = random_row(source, one)
            self.assertEqual(run(one + other, row, moves), run(one, row, moves))


class ShortestTest(unittest.TestCase):
    def test_shortest(self):
        self.assertEqual(shortest(CODE, ()), ())
        self.assertEqual(shortest(CODE, (4,)), ())
        self.assertEqual(shortest(CODE, (1, 0)), (0, 1, 1))
        self.assertEqual(shortest(code=Code([("ask", "t", (1, 1)), BACK]), row=(0,)), (0,))

    def test_first_of_the_shortest(self):
        source = seeded(11)
        for _ in range(200):
            code = random_code(source, source.randrange(1, 20))
            row = random_row(source, code, 6)
            moves = shortest(code, row)
            self.assertEqual(len(moves), row_norm(code, row))
            self.assertIs(returns(code, row, moves), True)
            self.assertTrue(is_plain(moves))
            told = run(code, row, moves)
            self.assertEqual(tuple(thing[2] for thing in told[:-1]), moves)
            if len(moves) <= 4:
                better = [short for short in itertools.product(range(5), repeat=len(moves)) if short < moves]
                for short in better:
                    things = run(code, row, short)
                    real = all(thing[2] == move for thing, move in zip(things[:-1], short))
                    self.assertFalse(things[-1] == () and real and len(things) == len(short) + 1, (code.lines, row))

    def test_shortest_moves_lower_the_level_by_one(self):
        source = seeded(12)
        for _ in range(60):
            code = random_code(source, source.randrange(1, 12))
            rules, row = CodeRules(code), random_row(source, code)
            moves = shortest(code, row)
            for level in range(row_norm(code, row) + 1):
                found, whole = rows_at_level(rules, row, level, 100)
                if whole:
                    # moves of states seen before are left out, so the first ones are among those found
                    least = min(len(some) for some, _ in found)
                    self.assertEqual(least, len(moves) - level)
                    self.assertIn(moves[:least], [some for some, _ in found])
                    self.assertTrue(all(level_of(rules, left) == level for _, left in found))
