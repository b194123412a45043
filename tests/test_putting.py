import unittest

from calltrim.codes import Code
from calltrim.errors import InvalidEntries, InvalidNumber, Undefined
from calltrim.putting import can_put_in, put_in
from calltrim.sameness import alike
from calltrim.tidying import shared
from bounds import codes_near_the_bounds, random_long_code
from mutants import ANY_VALUES
from refactored import random_pair
from support import BACK, SMALL, caught, is_plain, random_code, seeded
from tidy_reference import put_in_as_written

DO = ("do", "a")
DOB = ("do", "b")
# the body 3 to 6 is called at 1; its targets are 4 and its back line
CODE = Code([DO, ("call", 3), BACK, ("ask", "t", (6, 4)), DOB, ("go", 3), BACK])


class PuttingTest(unittest.TestCase):
    def assert_put(self, code, entries, place):
        """As written, whether it can be done or not; tells which."""
        expected, why = put_in_as_written(code, entries, place)
        self.assertIs(can_put_in(code, entries, place), expected is not None, why)
        if expected is None:
            self.assertEqual(caught(self, Undefined, put_in, code, entries, place).what, "put in")
            return why
        new, moved = put_in(code, entries, place)
        self.assertEqual((new.lines, moved), expected)
        self.assertTrue(is_plain(new.lines) and is_plain(moved))
        self.assertEqual(len(new), len(code) - 2)
        for old, entry in zip(entries, moved):
            self.assertIs(alike(code, (old,), new, (entry,)), True)
        return ""

    def test_lines_targets_and_entries(self):
        new, moved = put_in(CODE, (0, 2, 1), 1)
        self.assertEqual(new.lines, (DO, ("ask", "t", (4, 2)), DOB, ("go", 1), BACK))
        self.assertEqual(moved, (0, 4, 1))
        self.assertEqual(put_in(code=CODE, entries=(1,), place=1), (new, (1,)))
        self.assertIs(can_put_in(code=CODE, entries=(0,), place=1), True)
        self.assertEqual(self.assert_put(CODE, (0, 2, 1), 1), "")

    def test_the_body_ahead_of_the_call(self):
        code = Code([("ask", "t", (1, 2)), DO, BACK, DOB, ("call", 0), ("ask", "s", (4,)), BACK])
        new, moved = put_in(code, (3, 4, 5), 4)
        self.assertEqual(new.lines, (DOB, ("ask", "t", (2, 3)), DO, ("ask", "s", (1,)), BACK))
        self.assertEqual(moved, (0, 1, 3))
        self.assertEqual(self.assert_put(code, (3, 4, 5, 6), 4), "")

    def test_a_body_of_a_back_line_alone(self):
        code = Code([DO, ("call", 4), ("ask", "t", (1,)), BACK, BACK])
        new, moved = put_in(code, (0, 1, 2), 1)
        self.assertEqual(new.lines, (DO, ("ask", "t", (1,)), BACK))
        self.assertEqual(moved, (0, 1, 1))
        self.assertEqual(self.assert_put(code, (0, 1, 2), 1), "")

    def test_a_body_at_the_end_and_one_that_calls(self):
        code = Code([("call", 2), BACK, ("ask", "t", (5,)), ("call", 0), ("call", 6), BACK, DO, BACK])
        new, moved = put_in(code, (0, 6), 0)
        self.assertEqual(new.lines, (("ask", "t", (3,)), ("call", 0), ("call", 4), BACK, DO, BACK))
        self.assertEqual(moved, (0, 4))
        self.assertEqual(self.assert_put(code, (0, 6), 0), "")
        self.assertEqual(self.assert_put(code, (0, 0, 1), 4), "")

    def test_each_condition_broken_alone(self):
        broken = [
            ("no back", Code([("ask", "t", (4,)), ("call", 5), BACK, BACK, BACK, ("ask", "s", (3,)), ("go", 5)]), (0,), 1),
            ("call inside", Code([("ask", "t", (3,)), ("call", 0), DO, BACK]), (3,), 1),
            ("entry inside", CODE, (0, 4), 1), ("entry inside", CODE, (0, 6), 1), ("entry inside", CODE, (3,), 1),
            ("runs in", Code([DO, ("call", 4), BACK, DO, ("ask", "t", (6,)), DOB, BACK]), (0,), 1),
            ("runs in", Code([("call", 1), DO, BACK]), (0,), 0),
            ("runs in", Code([DO, DOB, BACK, ("call", 1), BACK]), (0, 3), 3),
            ("runs in", Code([("ask", "t", (0,)), DOB, BACK, ("call", 1), BACK]), (0, 3), 3),
            ("leads out", CODE.turn(3, ("ask", "t", (2, 4))), (0,), 1),
            ("leads out", CODE.turn(5, ("go", 2)), (0,), 1),
            ("leads out", CODE.turn(5, ("go", 0)), (0,), 1),
            ("calls inside", CODE.turn(4, ("call", 3)), (0,), 1), ("calls inside", CODE.turn(4, ("call", 6)), (0,), 1),
            ("leads in", CODE.turn(0, ("ask", "t", (6,))), (0,), 1), ("leads in", CODE.turn(0, ("call", 3)), (0,), 1),
            ("leads in", CODE.turn(2, ("go", 4)), (0,), 1), ("leads in", CODE.turn(0, ("ask", "t", (4, 1))), (0,), 1),
            ("no call", CODE, (0,), 0), ("no call", CODE, (0,), 5), ("no call", CODE, (0,), 6),
        ]
        for why, code, entries, place in broken:
            self.assertEqual(self.assert_put(code, entries, place), why)

    def test_a_code_that_would_be_refused(self):
        # behind answer 0 of t, which is not the shortest way, stand 16 events and more, behind the call 16
        def code_with(more):
            back = 7 + more
            eight = ("call", back + 1)
            body = [("ask", "t", (back,)), eight, eight, *[DOB] * more, BACK]
            return Code([("call", 4), eight, eight, BACK, *body, *[DO] * 8, BACK])

        self.assertEqual(code_with(0).norms[0], 17)
        self.assertEqual(self.assert_put(code_with(0), (0,), 0), "")
        self.assertEqual(put_in(code_with(0), (0,), 0)[0].norms[1], 32)
        for more in (1, 2, 10):
            self.assertEqual(code_with(more).norms[0], 17)
            self.assertEqual(self.assert_put(code_with(more), (0,), 0), "refused")

    def test_random_codes(self):
        source = seeded(95)
        seen = {}
        for turn in range(500):
            code = [random_code(source, source.randrange(3, 33), "ab"), random_pair(source)[0], random_pair(source)[1],
                    random_long_code(source)][turn % 4]
            entries = tuple(source.randrange(len(code)) for _ in range(source.choice([1, 1, 2, 4])))
            for made, starts in ((code, entries), shared(code, entries)):
                for place in range(len(made)):
                    why = self.assert_put(made, starts, place)
                    seen[why] = seen.get(why, 0) + 1
        self.assertGreater(seen.pop(""), 20)
        self.assertEqual(sorted(seen)[:7], ["call inside", "calls inside", "entry inside", "leads in", "leads out",
                                            "no back", "no call"])

    def test_near_the_bounds(self):
        for code in codes_near_the_bounds():
            for place in range(len(code)):
                self.assert_put(code, (0,), place)
                self.assert_put(code, (len(code) - 1, 0), place)

    def test_errors_in_their_order(self):
        for value in [(), (0,) * 5, (7,), (True,), [0], None, 0, ((0,),), SMALL, (0, [0])]:
            for call in (can_put_in, put_in):
                self.assertIs(caught(self, InvalidEntries, call, CODE, value, None).value, value)
        for value in [-1, 7, True, False, None, "0", (0,), [0], SMALL]:
            for call in (can_put_in, put_in):
                self.assertIs(caught(self, InvalidNumber, call, CODE, (0,), value).value, value)
        for value in ANY_VALUES:
            for call in (can_put_in, put_in):
                if value != (0,):
                    self.assertIs(caught(self, InvalidEntries, call, CODE, value, 1).value, value)
                if not isinstance(value, int) or isinstance(value, bool):
                    self.assertIs(caught(self, InvalidNumber, call, CODE, (0,), value).value, value)
        self.assertEqual(caught(self, Undefined, put_in, CODE, (0,), 0).what, "put in")


if __name__ == "__main__":
    unittest.main()
