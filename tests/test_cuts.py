import unittest

from calltrim.codes import Code
from calltrim.cuts import best_cut, cut_out, is_cut, saved
from calltrim.errors import Endless, InvalidCut, InvalidEntries, TooLarge, TooLong
from calltrim.sameness import alike
from bounds import codes_near_the_bounds, long_code, random_long_code
from cut_reference import all_cuts, best_as_written, cut_fault, cut_lines, repeated_code, saved_lines
from mutants import ANY_VALUES, changed, with_odd_parts
from support import BACK, SMALL, caught, is_plain, random_code, seeded
from tidy_reference import all_targets

A, B, C = ("do", "a"), ("do", "b"), ("do", "c")
# a, b, c three times; c of the third is followed by a back line
CODE = Code([A, B, C, ("ask", "t", (8,)), A, B, C, BACK, A, B, C, BACK])
TESTED = ("ask", "t", (0,))


def random_entries(source, code):
    return tuple(source.randrange(len(code)) for _ in range(source.choice([1, 1, 2, 3, 4])))


class IsCutTest(unittest.TestCase):
    def test_cuts(self):
        for value in [(3, (0, 4), None), (3, (0, 4, 8), None), (3, (0,), None), (3, (0,), 4), (3, (0, 4), 8),
                      (3, (4, 8), None), (2, (0,), None), (2, (0, 4, 8), None), (2, (1, 5, 9), None),
                      (2, (1,), 5), (2, (1, 5), 9), (2, (5, 9), None), (3, (8,), 4)]:
            self.assertEqual(cut_fault(CODE, (0,), value), "")
            self.assertIs(is_cut(code=CODE, entries=(0,), value=value), True)
            self.assertEqual(saved(value), saved_lines(value))
        self.assertEqual(saved(cut=(3, (0, 4, 8), None)), 2)
        self.assertEqual(saved((3, (0, 4), 8)), 4)
        self.assertEqual(saved((2, (0,), None)), -2)
        self.assertEqual(saved((5, (0, 7), 20)), 8)

    def test_no_cuts(self):
        wrong = {
            "order": [(1, (0, 4), None), (0, (0, 4), None), (3, (), None), (3, (4, 0), None), (3, (0, 0), None),
                      (2, (0, 8, 4), None), (3, (), 8)],
            "numbers": [(-3, (0, 4), None), (3, (0, 12), None), (3, (0, -8), None), (True, (0, 4), None),
                        (3, (False, 4), None), (3, (0, True), None), ("3", (0, 4), None), (3, ("0", 4), None),
                        (None, (0,), None), (3, (None,), None), (3, ((0,),), None)],
            "form": [[3, (0, 4), None], (3, [0, 4], None), (3, (0, 4)), (3, (0, 4), None, None), (3, 0, None),
                     (3, None, None), None, (), 3, True, SMALL],
            "no stretch": [(4, (0, 4), None), (2, (2,), None), (2, (2, 6), None), (2, (10,), None), (5, (8,), None),
                           (32, (0,), None), (10 ** 11, (0,), None), (2, (3,), None), (2, (7,), None), (3, (9,), None)],
            "unlike": [(2, (0, 5), None), (2, (0, 4, 9), None), (2, (1, 4), 9)],
            "body": [(3, (0, 4), 12), (3, (0, 4), -1), (3, (0, 4), 9), (3, (0,), True), (3, (0,), "4"), (3, (0,), (4,)),
                     (3, (0,), [4]), (2, (0,), 3), (2, (1,), 8), (3, (0,), False), (3, (0,), SMALL)],
            "body overlaps": [(3, (0, 4, 8), 8), (3, (4,), 4), (2, (5, 9), 9)],
            "body goes on": [(3, (4,), 0), (2, (0,), 4), (2, (4, 8), 0)],
        }
        for fault, values in wrong.items():
            for value in values:
                self.assertEqual(cut_fault(CODE, (0,), value), fault, value)
                self.assertIs(is_cut(CODE, (0,), value), False, value)
                self.assertIs(caught(self, InvalidCut, cut_out, CODE, (0,), value).value, value)

    def test_overlapping_stretches(self):
        code = Code([A] * 9 + [BACK])
        for length in range(1, 12):
            for first in range(9):
                for second in range(9):
                    for body in (None, 0, 4, 9 - length if length < 9 else 0):
                        for places in ((first, second), (first,)):
                            value = (length, places, body)
                            self.assertIs(is_cut(code, (0,), value), not cut_fault(code, (0,), value), value)
        self.assertIs(is_cut(code, (0,), (3, (0, 3), 6)), True)
        self.assertIs(is_cut(code, (0,), (3, (0, 4), 6)), False)
        self.assertIs(is_cut(code, (0,), (3, (0, 2), None)), False)

    def test_entries_and_targets_behind_the_first_place(self):
        cut = (3, (0, 4), None)
        for entries in ((0,), (4,), (0, 4, 3, 7), (8, 11), (9, 10)):
            self.assertIs(is_cut(CODE, entries, cut), True)
        for entries in ((1,), (0, 2), (5,), (8, 6), (0, 4, 3, 2)):
            self.assertEqual(cut_fault(CODE, entries, cut), "led to")
            self.assertIs(is_cut(CODE, entries, cut), False)
        for target in range(12):
            code = CODE.turn(3, ("ask", "t", (8, target)))
            self.assertIs(is_cut(code, (0,), cut), target not in (1, 2, 5, 6))
            self.assertIs(is_cut(code, (0,), (3, (0, 4), 8)), target not in (1, 2, 5, 6))
            code = CODE.turn(3, ("call", target)) if target > 3 else CODE
            self.assertIs(is_cut(code, (0,), cut), target not in (5, 6))
        code = Code([A, B, C, A, B, BACK, ("go", 4)])
        self.assertIs(is_cut(code, (0,), (2, (0, 3), None)), False)

    def test_stretches_with_calls(self):
        code = Code([("call", 7), A, ("call", 7), A, ("call", 8), A, BACK, A, A, BACK])
        self.assertIs(is_cut(code, (0,), (2, (0, 2), None)), True)
        self.assertIs(is_cut(code, (0,), (2, (0, 4), None)), False)
        self.assertIs(is_cut(code, (0,), (2, (0, 2, 4), None)), False)
        self.assertIs(is_cut(code, (0,), (2, (7,), None)), False)

    def test_as_written(self):
        source = seeded(100)
        seen = {True: 0, False: 0}
        for _ in range(300):
            code = repeated_code(source, source.randrange(6, 33))
            entries = random_entries(source, code)
            value = best_cut(code, entries) or (2, (source.randrange(len(code)),), None)
            for _ in range(10):
                other = changed(source, value)
                expected = not cut_fault(code, entries, other)
                self.assertIs(is_cut(code, entries, other), expected, other)
                seen[expected] += 1
        self.assertGreater(min(seen.values()), 100)

    def test_a_list_or_a_bool_anywhere(self):
        code = Code([A, B, A, B, BACK])
        for cut in ((2, (0,), None), (2, (0, 2), None), (2, (0,), 2), (2, (2,), None)):
            self.assertIs(is_cut(code, (0,), cut), True)
            for value in with_odd_parts(cut):
                left_out = value in (cut, (2, (0,), None)) and "True" not in repr(value) and "False" not in repr(value)
                self.assertIs(is_cut(code, (0,), value), left_out, value)

    def test_any_value_and_errors_in_their_order(self):
        for value in ANY_VALUES:
            self.assertIs(is_cut(CODE, (0,), value), False)
            self.assertIs(is_cut(CODE, (0,), (value, (0, 4), None)), False)
            self.assertIs(is_cut(CODE, (0,), (3, value, None)), value == (0,))
            self.assertIs(is_cut(CODE, (0,), (3, (0,), value)), value is None)
            self.assertIs(caught(self, InvalidCut, cut_out, CODE, (0,), value).value, value)
        for value in [(), (0,) * 5, (12,), (True,), [0], None, 0, ((0,),), SMALL]:
            for call in (is_cut, cut_out):
                self.assertIs(caught(self, InvalidEntries, call, CODE, value, "no cut").value, value)
            self.assertIs(caught(self, InvalidEntries, best_cut, CODE, value).value, value)
        for value in ANY_VALUES:
            if value != (0,):
                self.assertIs(caught(self, InvalidEntries, cut_out, SMALL, value, None).value, value)


class CutOutTest(unittest.TestCase):
    def assert_cut_out(self, code, entries, cut):
        new, moved = cut_out(code, entries, cut)
        self.assertEqual((new.lines, moved), cut_lines(code, entries, cut))
        self.assertTrue(is_plain(new.lines) and is_plain(moved))
        self.assertEqual(len(new), len(code) - saved(cut))
        for old, entry in zip(entries, moved):
            self.assertIs(alike(code, (old,), new, (entry,)), True)

    def test_with_a_body_and_without(self):
        new, moved = cut_out(CODE, (4, 0, 7, 8), (3, (0, 4, 8), None))
        self.assertEqual(new.lines, (("call", 6), ("ask", "t", (4,)), ("call", 6), BACK, ("call", 6), BACK, A, B, C, BACK))
        self.assertEqual(moved, (2, 0, 3, 4))
        new, moved = cut_out(code=CODE, entries=(4, 9), cut=(3, (0, 4), 8))
        self.assertEqual(new.lines, (("call", 4), ("ask", "t", (4,)), ("call", 4), BACK, A, B, C, BACK))
        self.assertEqual(moved, (2, 5))
        self.assert_cut_out(CODE, (0, 8), (3, (4, 8), None))
        self.assert_cut_out(CODE, (0, 8), (2, (1, 5, 9), None))
        self.assert_cut_out(CODE, (0, 8), (2, (0,), None))

    def test_calls_and_loops_in_the_piece(self):
        code = Code([A, ("call", 4), A, ("call", 4), ("ask", "t", (6, 0, 2)), B, BACK])
        self.assertEqual(cut_out(code, (0, 2), (2, (0, 2), None)), (
            Code([("call", 5), ("call", 5), ("ask", "t", (4, 0, 1)), B, BACK, A, ("call", 2), BACK]), (0, 1)))
        self.assert_cut_out(code, (0, 2, 3, 4)[:2], (2, (0, 2), None))

    def test_all_cuts_of_random_codes(self):
        source = seeded(101)
        done = 0
        for _ in range(150):
            code = repeated_code(source, source.randrange(6, 14))
            entries = random_entries(source, code)
            for cut in list(all_cuts(code, entries))[:60]:
                self.assertIs(is_cut(code, entries, cut), True)
                self.assert_cut_out(code, entries, cut)
                done += 1
        self.assertGreater(done, 1500)

    def test_32_lines_and_above(self):
        code = Code([A, B] + [C] * 27 + [BACK])
        for more in range(4):
            code = Code([A, B] + [C] * (26 + more) + [BACK])
            many = 31 + more
            if many <= 32:
                self.assert_cut_out(code, (0,), (2, (0,), None))
            else:
                error = caught(self, TooLarge, cut_out, code, (0,), (2, (0,), None))
                self.assertEqual(error.many, many)
        full = Code([A] * 31 + [BACK])
        self.assertEqual(caught(self, TooLarge, cut_out, full, (0,), (31, (0,), None)).many, 34)
        self.assertEqual(caught(self, TooLarge, cut_out, full, (0,), (2, (0, 4), None)).many, 33)
        self.assertEqual(len(cut_out(full, (0,), (2, (0, 2, 4), None))[0]), 32)

    def test_lengths_above_200(self):
        # each piece that is called costs two lines more; place 0 of the long code has the length 200
        code = long_code()
        for cut in ((2, (0,), None), (2, (2, 4), None), (9, (0,), None), (10, (0,), None), (2, (11,), None)):
            self.assertEqual(caught(self, TooLong, cut_out, code, (0,), cut).place, 0)
            self.assertEqual(too_long_place(code, (0,), cut), 0)
        behind = code.put(0, BACK)
        for cut in ((2, (1,), None), (2, (12, 16), None)):
            self.assertEqual(caught(self, TooLong, cut_out, behind, (1,), cut).place, 1)
            self.assertEqual(too_long_place(behind, (1,), cut), 1)
        self.assert_cut_out(code.take(0), (0, 3), (2, (0,), None))

    def test_never_endless(self):
        source = seeded(102)
        for _ in range(100):
            code = repeated_code(source, 20)
            for cut in ((2, (place,), None) for place in range(20)):
                if is_cut(code, (0,), cut):
                    try:
                        cut_out(code, (0,), cut)
                    except TooLong as error:
                        self.assertEqual(error.place, too_long_place(code, (0,), cut))


def too_long_place(code, entries, cut):
    try:
        Code(cut_lines(code, entries, cut)[0])
    except TooLong as error:
        return error.place
    except Endless:
        raise AssertionError
    return None


class BestCutTest(unittest.TestCase):
    def test_small_ones(self):
        self.assertEqual(best_cut(CODE), (3, (0, 8), 4))
        self.assertEqual(best_cut(CODE, (0,)), (3, (0, 8), 4))
        self.assertEqual(best_cut(code=CODE, entries=(0, 9)), (3, (0, 4), 8))
        self.assertEqual(best_cut(CODE, (0, 5)), (3, (0, 8), 4))
        self.assertEqual(best_cut(CODE, (1, 5, 9)), (2, (1, 9), 5))
        self.assertIsNone(best_cut(CODE, (2, 6, 10, 9)))
        self.assertIsNone(best_cut(SMALL))
        self.assertIsNone(best_cut(Code([A, B, TESTED, A, B, TESTED, BACK])))
        self.assertEqual(best_cut(Code([A, B, TESTED, A, B, BACK])), (2, (0,), 3))
        self.assertEqual(best_cut(Code([A, B, C, TESTED] * 4 + [BACK])), (3, (0, 4, 8, 12), None))
        self.assertTrue(is_plain(best_cut(CODE)))

    def test_a_cut_that_saves_nothing(self):
        for many in range(1, 8):
            code = Code([A, B, TESTED] * many + [BACK])
            expected = (2, tuple(range(0, 3 * many, 3)), None)
            self.assertEqual(saved(expected), many - 3)
            self.assertEqual(best_cut(code), expected if many > 3 else None)

    def test_greatest_length_first(self):
        # both save two lines
        code = Code([A, B, TESTED] * 3 + [C, C, C, C, TESTED, C, C, C, C, BACK])
        self.assertEqual(best_cut(code), best_as_written(code, (0,)))
        two = Code([A, B, C, TESTED, A, B, C, BACK])
        self.assertEqual(best_cut(two), (3, (0,), 4))

    def test_least_body_first(self):
        code = Code([A, B, BACK, A, B, BACK, A, B, BACK, TESTED, A, B, TESTED, BACK])
        self.assertEqual(best_cut(code), (2, (3, 6, 10), 0))
        self.assertEqual(best_as_written(code, (0,)), (2, (3, 6, 10), 0))
        # without a body three more places are needed for as much
        code = Code([A, B, TESTED, A, B, TESTED, A, B, TESTED, C, ("do", "d"), TESTED, C, ("do", "d"), BACK])
        self.assertEqual(best_cut(code), (2, (9,), 12))

    def test_places_first_in_dictionary_order(self):
        code = Code([A] * 13 + [TESTED, BACK])
        self.assertEqual(best_cut(code), best_as_written(code, (0,)))
        code = Code([A] * 7 + [BACK])
        self.assertEqual(best_cut(code), best_as_written(code, (0,)))
        two = Code([A, B, TESTED, C, A, TESTED] * 4 + [BACK])
        self.assertEqual(best_cut(two), (2, (0, 6, 12, 18), None))

    def test_by_a_search_over_all_cuts(self):
        source = seeded(103)
        seen = {}
        for turn in range(400):
            words = source.choice(["a", "ab", "abc"])
            code = repeated_code(source, source.randrange(5, 13), words)
            if turn % 5 == 0:
                code = random_code(source, source.randrange(1, 12), "a")
            elif turn % 5 == 1:
                code = Code(([A, B, C][:source.choice([2, 3, 3])] + [TESTED]) * source.choice([3, 4]) + [BACK])
            entries = random_entries(source, code)
            best = best_cut(code, entries)
            self.assertEqual(best, best_as_written(code, entries), (code.lines, entries))
            kind = None if best is None else best[2] is None
            seen[kind] = seen.get(kind, 0) + 1
        self.assertGreater(min(seen[kind] for kind in (None, True, False)), 10)

    def test_near_the_bounds(self):
        source = seeded(104)
        codes = [repeated_code(source, 32, "ab") for _ in range(30)] + [Code([A, B] * 15 + [A, BACK])]
        for code in codes + codes_near_the_bounds() + [random_long_code(source, "a") for _ in range(10)]:
            best = best_cut(code)
            if best is None:
                continue
            self.assertEqual(cut_fault(code, (0,), best), "")
            self.assertGreater(saved_lines(best), 0)
            targets = all_targets(code)
            # no cut of two places of two lines saves more
            for first in range(len(code)):
                for body in [None, *range(len(code))]:
                    if is_cut(code, (0,), (2, (first,), body)):
                        self.assertGreaterEqual(saved(best), saved((2, (first,), body)))
            self.assertTrue(all(inner not in targets for place in best[1] for inner in range(place + 1, place + best[0])))


if __name__ == "__main__":
    unittest.main()
