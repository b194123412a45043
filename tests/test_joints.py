import unittest

from calltrim.codes import Code
from calltrim.errors import InvalidMoves, InvalidNumber, InvalidRow
from calltrim.joints import first_reaches, joints
from calltrim.runs import row_norm, shortest
from reference import CodeRules, after, is_joint, level_of
from refactored import layered_code, random_pair
from support import BACK, SMALL, caught, is_plain, random_code, random_moves, random_row, seeded

DO = ("do", "a")
THREE = Code([DO, DO, DO, BACK])
# behind t the answers 0 and 1 do unlike things, and both then do b and c
FORK = Code([("ask", "t", (4,)), DO, ("do", "b"), ("go", 6), ("do", "d"), ("go", 2), ("do", "c"), BACK])
NO_NUMBERS = [-1, True, False, None, "0", (0,), [0], SMALL]


def reaches_as_written(code, row, moves, level):
    rules = CodeRules(code)
    row = rules.front(row)
    levels = [level_of(rules, row)]
    for move in moves:
        if not row:
            return False
        row = after(rules, row, move % rules.event(row[0])[1])
        levels.append(level_of(rules, row))
    return levels[-1] == level and all(ahead > level for ahead in levels[:-1])


class FirstReachesTest(unittest.TestCase):
    def test_each_level_by_shortest_moves(self):
        source = seeded(30)
        for _ in range(60):
            code = random_code(source, source.randrange(1, 20))
            row = random_row(source, code, 6)
            moves, norm = shortest(code, row), row_norm(code, row)
            for level in range(norm + 1):
                for many in range(norm + 1):
                    self.assertIs(first_reaches(code, row, moves[:many], level), many == norm - level)

    def test_no_moves_and_moves_past_the_return(self):
        self.assertIs(first_reaches(THREE, (0,), (), 3), True)
        self.assertIs(first_reaches(THREE, (0,), (), 2), False)
        self.assertIs(first_reaches(THREE, (0,), (0,), 3), False)
        self.assertIs(first_reaches(THREE, (0,), (7, 8, 9), 0), True)
        self.assertIs(first_reaches(THREE, (0,), (0, 0, 0, 0), 0), False)
        self.assertIs(first_reaches(SMALL, (0,), (), 0), True)
        self.assertIs(first_reaches(SMALL, (), (0,), 0), False)

    def test_levels_that_rise(self):
        code = Code([("ask", "t", (3,)), DO, ("go", 0), BACK])
        self.assertIs(first_reaches(code, (0,), (0,), 1), False)
        self.assertIs(first_reaches(code, (0, 0), (0, 0, 1), 1), True)
        self.assertIs(first_reaches(code, (0, 0), (0, 0, 1, 0), 1), False)
        self.assertIs(first_reaches(code=code, row=(0, 0), moves=(3, 1), level=0), True)

    def test_as_written(self):
        source = seeded(31)
        seen = {True: 0, False: 0}
        for _ in range(400):
            code = random_code(source, source.randrange(1, 14), "a")
            row, moves = random_row(source, code), random_moves(source, 6)
            for level in range(row_norm(code, row) + 1):
                found = first_reaches(code, row, moves, level)
                self.assertIs(found, reaches_as_written(code, row, moves, level))
                seen[found] += 1
        self.assertGreater(min(seen.values()), 100)

    def test_errors_in_their_order(self):
        for value in ([], (4,), (True,), None, (0,) * 7):
            self.assertIs(caught(self, InvalidRow, first_reaches, THREE, value, None, None).value, value)
        for value in ([], (-1,), (True,), None, 0):
            self.assertIs(caught(self, InvalidMoves, first_reaches, THREE, (0,), value, None).value, value)
        for value in [*NO_NUMBERS, 4, 5]:
            self.assertIs(caught(self, InvalidNumber, first_reaches, THREE, (0,), (), value).value, value)
        self.assertIs(caught(self, InvalidNumber, first_reaches, THREE, (), (), 1).value, 1)
        self.assertIs(first_reaches(THREE, (0,) * 6, (), 18), True)


class JointsTest(unittest.TestCase):
    def test_small_ones(self):
        self.assertEqual(joints(SMALL, ()), (0,))
        self.assertEqual(joints(SMALL, (0, 0)), (0,))
        self.assertEqual(joints(THREE, (0,)), (3, 2, 1, 0))
        self.assertEqual(joints(THREE, (1, 2)), (3, 2, 1, 0))
        self.assertEqual(joints(FORK, (0,)), (4, 2, 1, 0))
        self.assertEqual(joints(code=FORK, row=(0, 6)), (5, 3, 2, 1, 0))
        self.assertEqual(joints(FORK.turn(5, ("go", 6)), (0,)), (3, 1, 0))
        unlike = Code([("ask", "t", (3,)), DO, BACK, ("do", "b"), BACK])
        self.assertEqual(joints(unlike, (0,)), (2, 0))
        self.assertEqual(joints(Code([("ask", "t", (2,)), DO, DO, BACK]), (0,)), (2, 1, 0))
        self.assertEqual(joints(Code([("ask", "t", (3,)), DO, ("go", 0), BACK]), (0, 0)), (2, 1, 0))

    def test_norm_and_0_always_descending(self):
        source = seeded(32)
        for _ in range(200):
            code = random_code(source, source.randrange(1, 33), "ab")
            row = random_row(source, code, 6)
            found = joints(code, row)
            self.assertTrue(is_plain(found))
            self.assertEqual((found[0], found[-1]), (row_norm(code, row), 0))
            self.assertEqual(list(found), sorted(set(found), reverse=True))
            # each row has a joint where one of its members ends
            behind = {sum(code.norms[place] for place in row[at:]) for at in range(len(row) + 1)}
            self.assertLessEqual(behind, set(found))

    def test_by_all_rows_that_are_left(self):
        source = seeded(33)
        told = {True: 0, False: 0, None: 0}
        for turn in range(400):
            code = layered_code(source)
            if turn % 4 == 0:
                code = random_code(source, source.randrange(1, 14), "ab")
            elif turn % 4 == 1:
                code = random_pair(source)[1]
            row = (0,) if turn % 2 else random_row(source, code, 2)
            for level in range(1, min(row_norm(code, row), 10)):
                joint = is_joint(CodeRules(code), row, level)
                told[joint] += 1
                if joint is not None:
                    self.assertEqual(level in joints(code, row), joint, (code.lines, row, level))
        self.assertGreater(min(told[True], told[False]), 50)

    def test_rows_that_do_the_same_have_the_same_joints(self):
        source = seeded(34)
        for _ in range(100):
            one, other = random_pair(source)
            self.assertEqual(joints(one, (0,)), joints(other, (0,)))

    def test_errors(self):
        for value in ([], [0], (4,), (True,), None, (0,) * 7, 0, ((0,),)):
            self.assertIs(caught(self, InvalidRow, joints, THREE, value).value, value)
