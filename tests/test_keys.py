import unittest

from calltrim.codes import Code
from calltrim.errors import Endless, InvalidLine, InvalidRow, TooLong, Undefined
from calltrim.forms import least_events, prime_form
from calltrim.keys import key_holds, key_of
from calltrim.sameness import alike, parting, parting_holds
from bounds import codes_near_the_bounds, random_long_code, stair
from mutants import ANY_VALUES, changed, with_odd_parts, with_part
from paperwork import key_as_written
from refactored import random_pair
from support import (
    BACK, SMALL, caught, is_plain, random_code, random_line, random_row, seeded, shuffled_twin,
)

DO = ("do", "a")
LOOP = Code([("ask", "t", (3,)), DO, ("go", 0), BACK])
NO_ROWS = [[], [0], (4,), (0, 4), (-1,), (True,), ((0,),), (0,) * 7, None, 0, "", SMALL]
ONE = ("a", ((),))


class KeyOfTest(unittest.TestCase):
    def assert_decided(self, one, left, other, right):
        """Just one of a key that holds and moves that part; tells whether it is the key."""
        given = (one, left, other, right)
        if alike(*given):
            key = key_of(*given)
            self.assertIs(key_holds(*given, key), True)
            self.assertTrue(key_as_written(*given, key))
            self.assertTrue(is_plain(key))
            self.assertLessEqual(len(key[0]), 32)
            self.assertEqual(key_of(one, left, Code(list(other.lines)), right), key)
            self.assertEqual(caught(self, Undefined, parting, *given).what, "alike")
            return True
        self.assertEqual(caught(self, Undefined, key_of, *given).what, "unlike")
        self.assertIs(parting_holds(*given, parting(*given)), True)
        return False

    def test_small_ones(self):
        self.assertEqual(key_of(SMALL, (), SMALL, (0, 0)), ((), (), ()))
        self.assertEqual(key_of(LOOP, (3,), SMALL, ()), ((), (), ()))
        rules = (("t", ((1, 0), ())), ONE)
        key = key_of(one=LOOP, left=(0,), other=LOOP, right=(2,))
        self.assertEqual(key, (rules, ((0, (0,)), (1, (1, 0))), ((0, (0,)), (1, (1, 0)))))
        three = Code([DO, DO, DO, BACK])
        self.assertEqual(key_of(three, (2,), three, (2, 3)), ((ONE,), ((2, (0,)),), ((2, (0,)),)))
        self.assertIs(self.assert_decided(three, (0,), three, (1, 2)), True)
        self.assertIs(self.assert_decided(three, (0,), three, (1, 1)), False)

    def test_one_and_the_same_code(self):
        source = seeded(60)
        for many in range(1, 33):
            for _ in range(3):
                code = random_code(source, many, source.choice(["a", "ab"]))
                row = random_row(source, code, 6)
                self.assertTrue(self.assert_decided(code, row, code, row))
                self.assert_decided(code, row, code, random_row(source, code, 6))
                self.assert_decided(code, row[:1], code, random_row(source, code, 2))

    def test_twins(self):
        source = seeded(61)
        for _ in range(80):
            code = random_code(source, source.randrange(1, 17), "ab")
            lines, at = shuffled_twin(source, code)
            twin, row = Code(lines), random_row(source, code, 6)
            self.assertTrue(self.assert_decided(code, row, twin, tuple(at[place] for place in row)))

    def test_twins_with_a_line_changed(self):
        source = seeded(62)
        found = {True: 0, False: 0}
        for _ in range(200):
            code = random_code(source, source.randrange(1, 14), "ab")
            lines, at = shuffled_twin(source, code)
            place = source.randrange(len(lines))
            try:
                twin = Code(lines).turn(place, random_line(source, len(lines), "ab", place == len(lines) - 1))
            except (Endless, TooLong, InvalidLine):
                continue
            row = random_row(source, code, 6)
            found[self.assert_decided(code, row, twin, tuple(at[place] for place in row))] += 1
        self.assertGreater(min(found.values()), 20)

    def test_codes_of_other_pieces(self):
        source = seeded(63)
        for _ in range(150):
            one, other = random_pair(source)
            self.assertTrue(self.assert_decided(one, (0,), other, (0,)))
            self.assertTrue(self.assert_decided(other, (0, 0), one, (0, 0)))
            self.assert_decided(one, random_row(source, one, 6), other, random_row(source, other, 6))

    def test_no_key_has_fewer_rules_than_the_least_number_of_events(self):
        source = seeded(64)
        for _ in range(60):
            one, other = random_pair(source)
            self.assertGreaterEqual(len(key_of(one, (0,), other, (0,))[0]), least_events(one, 0))
            key = key_of(one, (0,), one, (0,))
            self.assertGreaterEqual(len(key[0]), least_events(one, 0))

    def test_near_the_bounds(self):
        source = seeded(65)
        codes = codes_near_the_bounds() + [random_long_code(source) for _ in range(20)]
        for code in codes:
            whole = (0,) * 6
            self.assertTrue(self.assert_decided(code, whole, code, whole))
            self.assert_decided(code, (0, 1), code, (1, 0))
        deeds = Code([DO] * 31 + [BACK])
        self.assertTrue(self.assert_decided(stair(5, [DO, BACK]), (0,), deeds, (0, 30)))
        self.assertFalse(self.assert_decided(stair(5, [DO, BACK]), (0,), deeds, (0, 29)))

    def test_errors_in_their_order(self):
        for value in NO_ROWS:
            self.assertIs(caught(self, InvalidRow, key_of, LOOP, value, LOOP, (0,)).value, value)
            self.assertIs(caught(self, InvalidRow, key_of, LOOP, (0,), LOOP, value).value, value)
            self.assertIs(caught(self, InvalidRow, key_of, LOOP, value, LOOP, "other").value, value)
        for value in ANY_VALUES:
            if value not in ((), (0,)):
                self.assertIs(caught(self, InvalidRow, key_of, SMALL, value, SMALL, (0,)).value, value)
        self.assertEqual(caught(self, Undefined, key_of, LOOP, (0,), LOOP, (1,)).what, "unlike")


class KeyHoldsTest(unittest.TestCase):
    def test_changed_at_one_place(self):
        source = seeded(66)
        held = 0
        for _ in range(150):
            one, other = random_pair(source)
            given = (one, (0, *random_row(source, one, 1)), other, (0,))
            if not alike(*given):
                given = (one, (0,), other, (0,))
            key = key_of(*given)
            for _ in range(20):
                value = changed(source, key)
                holds = key_holds(*given, value)
                self.assertIs(holds, key_as_written(*given, value), value)
                held += holds
        self.assertGreater(held, 20)

    def test_a_list_or_a_bool_anywhere(self):
        source = seeded(67)
        for _ in range(10):
            one, other = random_pair(source)
            for value in with_odd_parts(key_of(one, (0,), other, (0,))):
                self.assertIs(key_holds(one, (0,), other, (0,), value), False)

    def test_each_part_changed(self):
        key = key_of(LOOP, (0,), LOOP, (0,))
        rules, table, _ = key
        wrong = [
            (rules, table), (rules, table, table, table), (rules, table, ()), (rules, (), table), ((), table, table),
            (rules[:1], table, table), (rules, table[:1], table), (rules, table[1:], table), (rules, table[::-1], table),
            (rules, table + table[1:], table), (rules, table[:1] + table, table), (rules[::-1], table, table),
            (rules, table + ((3, (1,)),), table), (rules, table + ((4, (1,)),), table),
            (rules, table + ((2, (0,)),), table), (rules, ((0, (0,)), (1, (1,))), table),
            (rules, ((0, (0,)), (1, (1, 0, 0))), table), (rules, ((0, ()), (1, (1, 0))), table),
            (rules, ((0, (0,)), (1, (0, 1))), table), (rules, ((0, (0,)), (1, (1, 2))), table),
            (rules, ((0, (0, 0)), (1, (1, 0, 0))), table), ((("t", ((1, 0),)), rules[1]), table, table),
            ((("b", ((1, 0), ())), rules[1]), table, table), ((("t", ((), (1, 0))), rules[1]), table, table),
            ((("t", ((1, 0), (), ())), rules[1]), table, table), ((rules[0], ("a", ((0,),))), table, table),
            ((rules[0], ("a", ((), ()))), table, table), ((rules[0], ("a", ())), table, table),
            ((rules[0], ("a", ((2,),))), table, table), ((rules[0], ("a", ((-1,),))), table, table),
            ((rules[0], ("A", ((),))), table, table), ((*rules, ("a", ((),) * 6)), table, table),
            ((*rules, ("", ((),))), table, table), ((*rules, ("a", ((3,),))), table, table),
        ]
        for value in wrong:
            self.assertIs(key_holds(LOOP, (0,), LOOP, (0,), value), False, value)
            self.assertFalse(key_as_written(LOOP, (0,), LOOP, (0,), value))

    def test_tables_in_each_others_place(self):
        one = Code([DO, ("do", "b"), BACK])
        other = Code([("call", 2), ("go", 4), DO, BACK, ("do", "b"), BACK])
        key = key_of(one, (0,), other, (0,))
        self.assertIs(key_holds(one, (0,), other, (0,), key), True)
        self.assertIs(key_holds(one, (0,), other, (0,), (key[0], key[2], key[1])), False)
        self.assertIs(key_holds(other, (0,), one, (0,), (key[0], key[2], key[1])), True)

    def test_another_row(self):
        source = seeded(68)
        seen = {True: 0, False: 0}
        for _ in range(150):
            one, other = random_pair(source)
            key = key_of(one, (0,), other, (0,))
            for _ in range(6):
                left, right = random_row(source, one, 2), source.choice([(0,), random_row(source, other, 2)])
                holds = key_holds(one, left, other, right, key)
                self.assertIs(holds, key_as_written(one, left, other, right, key))
                self.assertTrue(alike(one, left, other, right) or not holds)
                seen[holds] += 1
        self.assertGreater(min(seen.values()), 30)

    def test_keys_of_ones_own_making(self):
        # rules that do the same apart, rules of no use without a norm, up to 64 of them
        deeds = Code([DO] * 31 + [BACK])
        rules = tuple(("a", ((at + 1,) if at < 30 else (),)) for at in range(31))
        table = tuple((at, (at,)) for at in range(31))
        self.assertIs(key_holds(deeds, (0,), deeds, (0,), (rules, table, table)), True)
        self.assertIs(key_holds(deeds, (0,), deeds, (1,), (rules, table, table)), False)
        more = rules + tuple(("b.1>2", ((at,), (at, at))) for at in range(31, 64))
        self.assertIs(key_holds(deeds, (0,), deeds, (0,), (more, table, table)), True)
        self.assertEqual(len(more), 64)
        self.assertIs(key_holds(deeds, (3, 4), deeds, (3, 4), (more, table[3:], table[3:])), True)
        self.assertIs(key_holds(deeds, (2, 4), deeds, (2, 4), (more, table[3:], table[3:])), False)
        one = (("a", ((),)),)
        row = tuple((at, (0,) * (31 - at)) for at in range(31))
        self.assertIs(key_holds(deeds, (0,) * 6, deeds, (0,) * 6, (one, row, row)), True)
        self.assertIs(key_holds(deeds, (1, 0), deeds, (0, 1), (one, row, row)), True)
        self.assertIs(key_holds(deeds, (1, 0), deeds, (0, 1), (rules, table, table)), False)
        mixed = ((("a", ((1,),)), ("a", ((),))), ((29, (0,)), (30, (1,))), ((29, (1, 1)), (30, (1,))))
        self.assertIs(key_holds(deeds, (29,), deeds, (29,), mixed), False)
        self.assertIs(key_holds(deeds, (30,), deeds, (30,), mixed), True)

    def test_a_row_in_the_middle_of_another_number(self):
        # the row of a place need not be of prime numbers
        code = Code([("ask", "t", (3,)), DO, BACK, ("do", "b"), DO, BACK])
        rules = (("t", ((1,), (2, 1))), ("a", ((),)), ("b", ((),)))
        table = ((0, (0,)), (1, (1,)), (3, (2, 1)), (4, (1,)))
        whole = (("t", ((1,), (3,))), ("a", ((),)), ("b", ((),)), ("b", ((1,),)))
        other = ((0, (0,)), (1, (1,)), (3, (3,)), (4, (1,)))
        self.assertIs(key_holds(code, (0,), code, (0,), (rules, table, table)), True)
        self.assertIs(key_holds(code, (0,), code, (0,), (whole, other, other)), True)
        self.assertIs(key_holds(code, (0,), code, (0,), (whole, table, other)), False)

    def test_rows_that_are_none(self):
        key = key_of(LOOP, (0,), LOOP, (0,))
        for value in NO_ROWS + ANY_VALUES:
            if value not in ((0,), (0, 3)):
                self.assertIs(key_holds(LOOP, value, LOOP, (0,), key), False)
                self.assertIs(key_holds(LOOP, (0,), LOOP, value, key), False)
        self.assertIs(key_holds(LOOP, (0, 3), LOOP, (3, 0), key), True)
        self.assertIs(key_holds(SMALL, (0,) * 7, SMALL, (), ((), (), ())), False)
        self.assertIs(key_holds(SMALL, (0,) * 6, SMALL, (), ((), (), ())), True)

    def test_any_value(self):
        key = key_of(LOOP, (0,), LOOP, (0,))
        for value in ANY_VALUES:
            self.assertIs(key_holds(one=LOOP, left=(0,), other=LOOP, right=(0,), value=value), False)
            for path in ((0,), (1,), (2,), (0, 0), (0, 0, 0), (0, 0, 1), (0, 0, 1, 0), (0, 0, 1, 0, 0), (1, 0),
                         (1, 0, 0), (1, 0, 1), (1, 0, 1, 0), (2, 1, 1, 0)):
                odd = with_part(key, path, value)
                self.assertIs(key_holds(LOOP, (0,), LOOP, (0,), odd), odd == key and "True" not in repr(odd)
                              and "False" not in repr(odd))

    def test_keys_hold_only_for_rows_of_one_prime_form(self):
        source = seeded(69)
        for _ in range(100):
            one, other = random_pair(source)
            left, right = random_row(source, one), random_row(source, other)
            for key in (key_of(one, left, one, left), key_of(one, (0,), other, (0,))):
                if key_holds(one, left, other, right, key):
                    self.assertEqual(prime_form(one, left), prime_form(other, right))


if __name__ == "__main__":
    unittest.main()
