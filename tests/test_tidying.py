import unittest

from calltrim.codes import Code
from calltrim.errors import InvalidEntries, InvalidNumber
from calltrim.norms import lengths_of
from calltrim.sameness import alike
from calltrim.tidying import is_entries, is_shared, is_skimmed, landed, reached, shared, skimmed
from bounds import codes_near_the_bounds, long_code, random_long_code
from mutants import ANY_VALUES
from refactored import random_pair
from support import BACK, SMALL, caught, is_plain, random_code, seeded
from tidy_reference import (
    landed_as_written, least_number_of_lines, reached_as_written, rings_of, share_faults, skim_faults,
)

DO = ("do", "a")
DOB = ("do", "b")
NO_ENTRIES = [(), (0,) * 5, (0, 0, 0, 0, 4), (4,), (-1,), (0, 4), (True,), (False,), (0, True), [0], [], None, 0, "0",
              ((0,),), (None,), ("0",), ([0],), SMALL, (SMALL,), (0, [1])]
FOUR = Code([("ask", "t", (3,)), DO, ("go", 0), BACK])


def random_entries(source, code):
    return tuple(source.randrange(len(code)) for _ in range(source.choice([1, 1, 2, 3, 4])))


def any_code(source, turn):
    return [random_code(source, source.randrange(1, 33), source.choice(["a", "ab", "abcd"])), random_pair(source)[0],
            random_pair(source)[1], random_long_code(source)][turn % 4]


def events_of(code):
    return sum(line[0] in ("do", "ask") for line in code.lines)


class EntriesTest(unittest.TestCase):
    def test_entries(self):
        for value in [(0,), (3,), (0, 0), (3, 0, 3, 1), (1, 2, 3), (0, 0, 0, 0)]:
            self.assertIs(is_entries(code=FOUR, value=value), True)
        for value in NO_ENTRIES:
            self.assertIs(is_entries(FOUR, value), False, value)
        for value in ANY_VALUES:
            self.assertIs(is_entries(SMALL, value), value == (0,) and isinstance(value, tuple))

    def test_errors(self):
        for value in NO_ENTRIES:
            for call in (reached, is_skimmed, skimmed, is_shared, shared):
                self.assertIs(caught(self, InvalidEntries, call, FOUR, value).value, value)
        for value in ANY_VALUES:
            if value != (0,):
                self.assertIs(caught(self, InvalidEntries, shared, SMALL, value).value, value)

    def test_left_out(self):
        code = Code([("go", 3), DO, BACK, DO, ("ask", "t", (0,)), BACK])
        for call in (reached, is_skimmed, skimmed, is_shared, shared):
            self.assertEqual(call(code), call(code, (0,)))
            self.assertEqual(call(code=code), call(code=code, entries=(0,)))
        self.assertEqual(reached(code), (0, 3, 4, 5))


class ReachedTest(unittest.TestCase):
    def test_small_ones(self):
        code = Code([("call", 3), BACK, DO, ("ask", "t", (5,)), BACK, ("go", 7), DO, BACK])
        self.assertEqual([reached(code, (place,)) for place in range(8)], [
            (0, 1, 3, 4, 5, 7), (1,), (2, 3, 4, 5, 7), (3, 4, 5, 7), (4,), (5, 7), (6, 7), (7,)])
        self.assertEqual(reached(code, (6, 1, 6, 4)), (1, 4, 6, 7))

    def test_as_written(self):
        source = seeded(90)
        for turn in range(200):
            code = any_code(source, turn)
            entries = random_entries(source, code)
            self.assertEqual(reached(code, entries), reached_as_written(code, entries))
            self.assertTrue(is_plain(reached(code, entries)))
            for place in range(len(code)):
                self.assertEqual(landed(code, place), landed_as_written(code, place))

    def test_landed(self):
        code = Code([("go", 3), BACK, ("go", 1), ("go", 2), DO, ("go", 0)])
        self.assertEqual([landed(code, place) for place in range(6)], [1, 1, 1, 1, 4, 1])
        self.assertEqual(landed(code=code, place=5), 1)
        for value in [-1, 6, True, False, None, "0", (0,), [0], SMALL]:
            self.assertIs(caught(self, InvalidNumber, landed, code, value).value, value)


class SkimmedTest(unittest.TestCase):
    def test_just_one_sentence_broken(self):
        ask = ("ask", "t", (3,))
        broken = {
            "not reached": [Code([DO, BACK, BACK]), Code([DO, BACK, DO, BACK])],
            "go at a target": [Code([("ask", "t", (2,)), BACK, ("go", 4), BACK, DO, BACK]),
                               Code([("ask", "t", (2, 4)), BACK, ("go", 4), BACK, DO, ("ask", "s", (3,)), BACK])],
            "go to the next": [Code([DO, ("go", 2), DOB, BACK]), Code([ask, DO, ("go", 3), DOB, BACK])],
            "go to a back": [Code([("ask", "t", (3,)), DO, ("go", 4), DOB, BACK])],
            "call of nothing": [Code([("call", 2), DO, BACK])],
            "call at the end": [Code([("call", 2), BACK, DO, BACK])],
        }
        for fault, codes in broken.items():
            for code in codes:
                if fault == "go at a target":
                    self.assertIn(fault, skim_faults(code, (0,)))
                else:
                    self.assertEqual(skim_faults(code, (0,)), [fault])
                self.assertIs(is_skimmed(code), False)
                self.assertIs(is_shared(code), False)
                self.assert_skimmed(code, (0,))
        alone = Code([DO, ("go", 3), DOB, BACK][:1] + [("ask", "t", (4,)), DOB, BACK, ("go", 2)])
        self.assertEqual(skim_faults(alone, (0,)), ["go at a target"])
        self.assertIs(is_skimmed(alone), False)
        self.assertIs(is_skimmed(Code([DO, ("ask", "t", (4,)), DOB, BACK, DO, ("go", 2)])), True)

    def test_a_go_at_an_entry(self):
        code = Code([DO, ("go", 3), BACK, ("ask", "t", (0,)), BACK])
        self.assertIs(is_skimmed(code, (0, 2)), True)
        self.assertIs(is_skimmed(code, (0, 2, 1)), False)
        self.assertIs(is_skimmed(code, (0,)), False)
        self.assertEqual(skim_faults(code, (0, 2, 1)), ["go at a target"])
        self.assert_skimmed(code, (0, 2, 1))

    def assert_skimmed(self, code, entries):
        made = skimmed(code, entries)
        self.assertIs(type(made), tuple)
        new, moved = made
        self.assertEqual(skim_faults(new, moved), [])
        self.assertIs(is_skimmed(new, moved), True)
        self.assertEqual(len(moved), len(entries))
        self.assertLessEqual(len(new), len(code))
        self.assertLessEqual(events_of(new), events_of(code))
        for old, entry in zip(entries, moved):
            self.assertIs(alike(code, (old,), new, (entry,)), True)
        self.assertEqual(skimmed(Code(list(code.lines)), entries), made)
        return new, moved

    def test_random_codes(self):
        source = seeded(91)
        for turn in range(300):
            code = any_code(source, turn)
            entries = random_entries(source, code)
            self.assertIs(is_skimmed(code, entries), not skim_faults(code, entries))
            new, moved = self.assert_skimmed(code, entries)
            for place in range(0, len(new), 3):
                other = new.take(place) if place + 1 < len(new) and new[place][0] == "do" else new
                self.assertIs(is_skimmed(other, (0,)), not skim_faults(other, (0,)))

    def test_silent_codes(self):
        code = Code([("call", 3), ("go", 4), BACK, ("call", 2), ("go", 2)])
        for entries in ((0,), (1, 3), (2, 2), (4, 0, 1, 2)):
            self.assertEqual(self.assert_skimmed(code, entries), (SMALL, (0,) * len(entries)))

    def test_near_the_bounds(self):
        source = seeded(92)
        for code in codes_near_the_bounds() + [random_long_code(source) for _ in range(20)]:
            for entries in ((0,), random_entries(source, code)):
                new, moved = self.assert_skimmed(code, entries)
                self.assertLess(max(lengths_of(new.lines)), 160)
        self.assertEqual(skimmed(long_code()), (Code([DO, BACK]), (0,)))


class SharedTest(unittest.TestCase):
    def assert_shared(self, code, entries):
        made = shared(code, entries)
        self.assertIs(type(made), tuple)
        new, moved = made
        self.assertEqual(share_faults(new, moved), [])
        self.assertIs(is_shared(new, moved), True)
        self.assertIs(is_skimmed(new, moved), True)
        self.assertEqual(len(new), least_number_of_lines(new, moved))
        self.assertEqual(len(moved), len(entries))
        self.assertLessEqual(len(new), len(code))
        for old, entry in zip(entries, moved):
            self.assertIs(alike(code, (old,), new, (entry,)), True)
        self.assertEqual(shared(Code(list(code.lines)), entries), made)
        return new, moved

    def test_twins(self):
        code = Code([("ask", "t", (3,)), DO, BACK, DO, BACK])
        self.assertIs(is_skimmed(code), True)
        self.assertEqual(share_faults(code, (0,)), ["twins"])
        self.assertIs(is_shared(code), False)
        new, _ = self.assert_shared(code, (0,))
        self.assertEqual(len(new), 3)
        calls = Code([("ask", "t", (3,)), ("call", 5), ("go", 8), ("call", 5), ("go", 8), DO, DOB, BACK,
                      ("do", "c"), BACK])
        self.assertEqual(share_faults(calls, (0,)), ["twins"])
        self.assertEqual(len(self.assert_shared(calls, (0,))[0]), 7)
        # a call line and a do line that do the same
        mixed = Code([("ask", "t", (4,)), ("call", 6), DOB, BACK, DO, ("go", 2), DO, BACK])
        self.assertEqual(share_faults(mixed, (0,)), ["twins"])
        self.assertIs(is_shared(mixed), False)
        self.assert_shared(mixed, (0,))

    def test_equal_ends_and_loops(self):
        code = Code([("ask", "t", (4,)), DO, DOB, BACK, ("do", "c"), DOB, BACK])
        self.assertEqual(len(self.assert_shared(code, (0,))[0]), 6)
        turned = Code([("ask", "t", (8,)), DO, ("ask", "t", (8,)), DO, ("ask", "t", (8,)), DO, ("go", 2), BACK, BACK])
        self.assertEqual(len(self.assert_shared(turned, (0,))[0]), 4)
        self.assertEqual(len(self.assert_shared(turned, (3, 5, 7, 8))[0]), 4)

    def test_too_many_lines(self):
        # two gos where one way could run on
        code = Code([("ask", "t", (3,)), DO, ("go", 7), DOB, ("go", 7), ("ask", "s", (1,)), BACK, ("do", "c"), BACK])
        self.assertIs(is_skimmed(code, (0, 5)), True)
        self.assertEqual(share_faults(code, (0, 5)), ["too many lines"])
        self.assertIs(is_shared(code, (0, 5)), False)
        self.assertEqual(len(self.assert_shared(code, (0, 5))[0]), 8)
        backs = Code([("ask", "t", (3,)), DO, BACK, BACK])
        self.assertEqual(share_faults(backs, (0,)), ["too many lines"])
        self.assertIs(is_shared(backs), False)
        self.assertIs(is_shared(Code([("ask", "t", (2,)), DO, BACK])), True)

    def test_a_back_line_alone(self):
        code = Code([("ask", "t", (2,)), ("go", 0), BACK])
        self.assertIs(is_shared(code), True)
        self.assertEqual(rings_of(code), [{0}])
        self.assertEqual(least_number_of_lines(code, (0,)), 3)
        self.assertIs(is_shared(code, (0, 2)), True)
        two = Code([("ask", "t", (2,)), ("go", 0), BACK, BACK])
        self.assertIs(is_shared(two, (0, 3)), False)
        self.assertEqual(self.assert_shared(two, (0, 3))[0], code)
        self.assertIs(is_shared(SMALL, (0, 0)), True)
        self.assertIs(is_shared(Code([BACK, BACK]), (0, 1)), False)

    def test_rings(self):
        ring = Code([("ask", "t", (4, 1)), DO, DOB, ("go", 0), BACK])
        self.assertEqual(rings_of(ring), [{0, 1, 2}])
        self.assertIs(is_shared(ring), True)
        # a ring with another line that goes on to it: no go more than for joined ways
        joined = Code([("do", "c"), ("ask", "t", (5, 2)), DO, DOB, ("go", 1), BACK])
        self.assertEqual(rings_of(joined), [])
        self.assertIs(is_shared(joined), True)
        broken = Code([("do", "c"), ("go", 3), BACK, ("ask", "t", (2, 4)), DO, DOB, ("go", 3)])
        self.assertEqual(share_faults(broken, (0,)), ["too many lines"])
        self.assertIs(is_shared(broken), False)
        self.assertEqual(len(self.assert_shared(broken, (0,))[0]), 6)
        rings = Code([("ask", "t", (4,)), DO, ("go", 0), BACK, ("ask", "s", (3,)), DOB, ("go", 4)])
        self.assertEqual(len(rings_of(rings)), 2)
        self.assertIs(is_shared(rings), True)

    def test_random_codes(self):
        source = seeded(93)
        rings = shorter = 0
        for turn in range(160):
            code = any_code(source, turn)
            entries = random_entries(source, code)
            self.assertIs(is_shared(code, entries), not share_faults(code, entries))
            new, moved = skimmed(code, entries)
            self.assertIs(is_shared(new, moved), not share_faults(new, moved))
            one, there = self.assert_shared(code, entries)
            other, _ = self.assert_shared(new, moved)
            self.assertLessEqual(len(other), len(new))
            self.assertLessEqual(len(self.assert_shared(one, there)[0]), len(one))
            rings += len(rings_of(one))
            shorter += len(one) < len(new)
        self.assertGreater(rings, 10)
        self.assertGreater(shorter, 10)

    def test_near_the_bounds(self):
        source = seeded(94)
        for code in codes_near_the_bounds() + [random_long_code(source, "a") for _ in range(20)]:
            for entries in ((0,), random_entries(source, code)):
                self.assert_shared(code, entries)


if __name__ == "__main__":
    unittest.main()
