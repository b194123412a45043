import unittest

from calltrim.codes import Code
from calltrim.errors import Endless, InvalidForm, InvalidMoves, InvalidNumber, InvalidRow, TooLarge, TooLong
from calltrim.forms import form_norm, form_run, is_form, least_events, prime_form, spelled
from calltrim.joints import joints
from calltrim.runs import row_norm, run
from calltrim.sameness import alike
from reference import FormRules, differing_moves, is_joint, run_of
from refactored import layered_code, random_pair, random_rules
from support import (
    BACK, ODD_VALUES, SMALL, caught, is_plain, random_code, random_moves, random_row, seeded, shuffled_twin,
)

DO = ("do", "a")
ONE = ("a", ((),))
# t does b and itself twice behind answer 0
NESTED = ((0,), (("t", ((1, 0, 0), ())), ("b", ((),))))


def chain(many):
    """So many rules, each of which goes on to the next one; the norm of the first is their number."""
    return tuple(("a", ((number + 1,) if number + 1 < many else (),)) for number in range(many))


def doubling(norm):
    """A form whose number 0 has the norm."""
    return ((0,), (("a", ((1,) * (norm - 1),)), ONE)) if norm > 1 else ((0,), (ONE,))


FORMS = [
    ((), ()), ((0,), (ONE,)), ((0, 0), (ONE,)), NESTED, ((0, 1), (ONE, ONE)), ((0,), chain(32)), ((0,) * 192, (ONE,)),
    doubling(32), ((0,), (("t", ((0, 1), (1,), ())), ONE)),
    ((0,), (("t", ((1,), (2,), (1, 3), (), ())), ONE, ONE, ONE)),
    ((0, 1, 0, 2), (ONE, ("b.1>2", ((2,), (0,))), ONE)), ((0,), (("t", ((), (0,) * 32)),)),
    ((0,), (("t", ((1,) * 31 + (0,), ())), ONE)),
]
NO_FORMS = [
    # numbers out of order
    ((1, 0), (ONE, ONE)), ((1,), (ONE, ONE)), ((0,), (("t", ((2,), (1,))), ONE, ONE)), ((0, 2, 1), (ONE, ONE, ONE)),
    ((0,), (("a", ((),)), ("a", ((),)))), ((), (ONE,)), ((0,), (("t", ((), (1,))), ONE, ONE)),
    ((0,), (ONE, ("a", ((2,),)), ONE)), ((0,), (ONE, ("t", ((1,), ())))), ((0,), (ONE, ("a", ((),)))),
    ((0,), (("a", ((2,),)), ("a", ((),)), ("a", ((1,),)))),
    # numbers that are none of a rule
    ((0,), ()), ((1,), (ONE,)), ((0, 1), (ONE,)), ((0,), (("a", ((1,),)),)), ((-1,), (ONE,)),
    ((0,), (("a", ((-1,),)),)), ((True,), (ONE, ONE)), ((0, True), (ONE, ONE)), ((0,), (("a", ((True,),)), ONE)),
    (("0",), (ONE,)), (((0,),), (ONE,)), ((None,), (ONE,)),
    # endless ones
    ((0,), (("a", ((0,),)),)), ((0,), (("t", ((0,), (0, 0))),)), ((0,), (("a", ((1,),)), ("a", ((0,),)))),
    ((0,), (("t", ((), (1,))), ("a", ((1,),)))), ((0, 1), (ONE, ("a", ((0, 1),)))),
    # too large ones
    ((0,), chain(33)), ((0,) * 193, (ONE,)), doubling(33), ((0,), (("t", ((), (0,) * 33)),)),
    ((0,), (("t", ((),) * 6),)), ((0,), (("t", ((0,) * 33, ())),)), ((0, 1), (ONE, ("a", ((0,) * 32,)))),
    # other kinds of values
    [], [(), ()], (), ((),), ((), (), ()), ((), []), ([], ()), ([0], (ONE,)), ((0,), [ONE]), ((0,), (["a", ((),)],)),
    ((0,), (("a", [()]),)), ((0,), (("a", ([],)),)), ((0,), (("a", ()),)), ((0,), (("a",),)),
    ((0,), (("a", ((),), 0),)),
    ((0,), (("A", ((),)),)), ((0,), ((None, ((),)),)), ((0,), (("a", (0,)),)), ((0,), (("a", None),)), ((0,), (None,)),
    (0, (ONE,)), ((0,), 1), "", None, True, 0, SMALL, (SMALL, SMALL), ((0,), (("", ((),)),)), ((0,), (0,)),
    ((0,), (("a", ((SMALL,),)),)), (None, None),
]


class FormsTest(unittest.TestCase):
    def test_forms(self):
        for form in FORMS:
            self.assertIs(is_form(form), True, form)
            rules = FormRules(form[1])
            for number in range(len(form[1])):
                self.assertEqual(form_norm(form, number), rules.norms[number])
        self.assertIs(is_form(value=NESTED), True)
        self.assertEqual(form_norm(form=doubling(32), number=0), 32)

    def test_no_forms(self):
        for value in NO_FORMS + [value for value in ODD_VALUES]:
            self.assertIs(is_form(value), False, value)
            self.assertIs(caught(self, InvalidForm, form_norm, value, None).value, value)
            self.assertIs(caught(self, InvalidForm, form_run, value, None).value, value)
            self.assertIs(caught(self, InvalidForm, spelled, value).value, value)

    def test_32_and_33_rules(self):
        for many in (1, 31, 32, 33, 34):
            self.assertIs(is_form((tuple(range(many)), (ONE,) * many)), many <= 32)

    def test_norms_near_32(self):
        for norm in range(1, 40):
            self.assertIs(is_form(doubling(norm)), norm <= 32)
            self.assertIs(is_form(((0,), chain(norm))), norm <= 32)
        powers = tuple(("a", ((number + 1,) * 2,)) for number in range(5)) + (ONE,)
        self.assertIs(is_form(((0,), powers)), False)
        self.assertIs(is_form(((0,), powers[1:-1] + (("a", ((),)),))), False)
        smaller = tuple(("a", ((number + 1,) * 2,)) for number in range(4)) + (ONE,)
        self.assertEqual(form_norm(((0,), smaller), 0), 31)
        self.assertIs(is_form(((0,), (("a", ((1, 1),)), *[("a", ((n + 2,) * 2,)) for n in range(29)], ONE))), False)

    def test_no_numbers_of_rules(self):
        for value in [-1, 2, 3, True, False, None, "0", (0,), [0], SMALL]:
            self.assertIs(caught(self, InvalidNumber, form_norm, NESTED, value).value, value)
        self.assertIs(caught(self, InvalidNumber, form_norm, ((), ()), 0).value, 0)

    def test_runs(self):
        self.assertEqual(form_run(((), ()), (1, 2)), ((),))
        self.assertEqual(form_run(NESTED, ()), (("t", 2),))
        self.assertEqual(form_run(NESTED, (4, 7, 1)), (("t", 2, 0), ("b", 1, 0), ("t", 2, 1), ("t", 2)))
        self.assertEqual(form_run(form=NESTED, moves=(1, 1)), (("t", 2, 1), ()))
        self.assertTrue(is_plain(form_run(NESTED, (4, 7, 1))))
        for value in ([], [0], (True,), (-1,), None, 0, ("0",)):
            self.assertIs(caught(self, InvalidMoves, form_run, NESTED, value).value, value)

    def test_runs_by_up_to_60_moves(self):
        source = seeded(40)
        for form in FORMS:
            for most in (5, 20, 61):
                moves = random_moves(source, most)
                self.assertEqual(form_run(form, moves), run_of(FormRules(form[1]), form[0], moves))

    def test_what_is_a_form_by_the_words(self):
        source = seeded(41)
        seen = {True: 0, False: 0}
        for _ in range(3000):
            many = source.randrange(0, 4)
            rules = random_rules(source, many, "ab") if many else ()
            start = tuple(source.randrange(many) for _ in range(source.randrange(4))) if many else ()
            expected = is_form_as_written(start, rules)
            self.assertIs(is_form((start, rules)), expected, (start, rules))
            seen[expected] += 1
        self.assertGreater(min(seen.values()), 300)


def is_form_as_written(start, rules):
    for number in range(len(rules)):
        rows = [start] + [row for _, rows in rules[:number] for row in rows]
        come = [member for row in rows for member in row]
        if number not in come or any(smaller not in come[:come.index(number)] for smaller in range(number)):
            return False
    return all(norm is not None and norm <= 32 for norm in FormRules(rules).norms)


class PrimeFormTest(unittest.TestCase):
    def test_small_ones(self):
        self.assertEqual(prime_form(SMALL, ()), ((), ()))
        self.assertEqual(prime_form(SMALL, (0, 0)), ((), ()))
        code = Code([DO, ("do", "b"), DO, BACK])
        self.assertEqual(prime_form(code, (0,)), ((0, 1, 0), (ONE, ("b", ((),)))))
        self.assertEqual(prime_form(code=code, row=(1, 1)), ((0, 1, 0, 1), (("b", ((),)), ONE)))
        fork = Code([("ask", "t", (3,)), DO, BACK, ("do", "b"), BACK])
        self.assertEqual(prime_form(fork, (0,)), ((0,), (("t", ((1,), (2,))), ONE, ("b", ((),)))))
        nested = Code([("ask", "t", (4,)), ("do", "b"), ("call", 0), ("go", 0), BACK])
        self.assertEqual(prime_form(nested, (0,)), NESTED)

    def assert_prime(self, code, row, source):
        form = prime_form(code, row)
        self.assertTrue(is_form(form) and is_plain(form))
        start, rules = form
        numbers = FormRules(rules)
        found = joints(code, row)
        self.assertEqual([high - low for high, low in zip(found, found[1:])], [numbers.norms[at] for at in start])
        for _ in range(5):
            moves = random_moves(source, 60)
            self.assertEqual(form_run(form, moves), run(code, row, moves))
        for number in range(len(rules)):
            for other in range(number):
                self.assertIsNotNone(differing_moves(numbers, (number,), numbers, (other,), 5000)[0])
            for level in range(1, min(numbers.norms[number], 8)):
                self.assertIsNot(is_joint(numbers, (number,), level), True)
        return form

    def test_as_described(self):
        source = seeded(42)
        for turn in range(150):
            words = source.choice(["a", "ab", ("a", "b", "t.1")])
            codes = [*random_pair(source), layered_code(source), random_code(source, source.randrange(1, 33), words)]
            code = codes[turn % 4]
            self.assert_prime(code, (0,), source)
            self.assert_prime(code, random_row(source, code, 6), source)

    def test_equal_exactly_if_rows_do_the_same(self):
        source = seeded(43)
        for _ in range(120):
            one, other = random_pair(source)
            self.assertEqual(prime_form(one, (0,)), prime_form(other, (0,)))
            for _ in range(4):
                left, right = random_row(source, one), random_row(source, other)
                same = prime_form(one, left) == prime_form(other, right)
                self.assertEqual(same, alike(one, left, other, right))

    def test_pairs_that_are_needed_again(self):
        code = Code([("ask", "b", (4,)), ("ask", "a", (6,)), ("ask", "b", (0,)), ("call", 6), ("ask", "b", (3,)),
                     ("ask", "a", (6,)), BACK])
        form = ((0, 0, 1, 2, 2, 3, 0), (
            ("b", ((4,), (1, 2))), ("b", ((), (1,))), ("a", ((), ())), ("b", ((1, 2), (0,))), ("a", ((3,), ()))))
        self.assertEqual(prime_form(code, (0, 0, 3, 5, 2, 0)), form)
        self.assert_prime(code, (0, 0, 3, 5, 2, 0), seeded(47))

    def test_twins(self):
        source = seeded(44)
        for _ in range(60):
            code = random_code(source, source.randrange(1, 17), "ab")
            lines, at = shuffled_twin(source, code)
            row = random_row(source, code, 6)
            self.assertEqual(prime_form(code, row), prime_form(Code(lines), tuple(at[place] for place in row)))

    def test_large_ones(self):
        code = Code([DO] * 31 + [BACK])
        self.assertEqual(prime_form(code, (0,) * 6), ((0,) * 186, (ONE,)))
        tests = Code([("ask", "t", (31,)) for _ in range(31)] + [BACK])
        form = prime_form(tests, (0,))
        self.assertEqual(len(form[1]), 31)
        self.assertEqual(form[0], (0,))
        stair = Code([("call", 2), ("go", 2), ("call", 4), ("go", 4), ("call", 6), ("go", 6), ("call", 8), ("go", 8),
                      ("call", 10), ("go", 10), DO, BACK])
        self.assertEqual(prime_form(stair, (0,) * 6), ((0,) * 192, (ONE,)))

    def test_errors(self):
        for value in ([], [0], (1,), (True,), None, (0,) * 7, 0, ((0,),), SMALL):
            self.assertIs(caught(self, InvalidRow, prime_form, SMALL, value).value, value)

    def test_least_events(self):
        self.assertEqual(least_events(SMALL, 0), 0)
        code = Code([DO, ("do", "b"), DO, ("ask", "t", (0,)), DO, BACK])
        self.assertEqual([least_events(code, place) for place in range(6)], [3, 3, 3, 3, 1, 0])
        source = seeded(45)
        for _ in range(60):
            code = random_code(source, source.randrange(1, 20), "ab")
            for place in range(len(code)):
                least = least_events(code=code, place=place)
                self.assertEqual(least, len(prime_form(code, (place,))[1]))
                self.assertLessEqual(least, sum(line[0] in ("do", "ask") for line in code.lines))
        for _ in range(60):
            one, other = random_pair(source)
            least = least_events(one, 0)
            self.assertEqual(least_events(other, 0), least)
            self.assertLessEqual(least, sum(line[0] in ("do", "ask") for line in other.lines))
        for value in [-1, 1, True, False, None, "0", (0,), [0], SMALL]:
            self.assertIs(caught(self, InvalidNumber, least_events, SMALL, value).value, value)


class SpelledTest(unittest.TestCase):
    def test_lines_as_written(self):
        self.assertEqual(spelled(((), ())).lines, (BACK,))
        self.assertEqual(spelled(((0,), (ONE,))).lines, (("go", 1), DO, BACK))
        self.assertEqual(spelled(form=NESTED).lines, (
            ("go", 1), ("ask", "t", (5,)), ("call", 6), ("call", 1), ("go", 1), BACK, ("do", "b"), BACK))
        form = ((0, 1, 0), (("t.1>2", ((1,), (), (0, 1))), ("b", ((),))))
        self.assertEqual(spelled(form).lines, (
            ("call", 3), ("call", 8), ("go", 3), ("ask", "t.1>2", (5, 6)), ("go", 8), BACK, ("call", 3), ("go", 8),
            ("do", "b"), BACK))

    def test_place_0_runs_as_start_does(self):
        source = seeded(46)
        made = 0
        for _ in range(200):
            one, _ = random_pair(source)
            form = prime_form(one, (0,))
            try:
                code = spelled(form)
            except (TooLarge, TooLong):
                continue
            made += 1
            self.assertIs(alike(code, (0,), one, (0,)), True)
            self.assertEqual(prime_form(code, (0,)), form)
            self.assertEqual(sum(line[0] in ("do", "ask") for line in code.lines), len(form[1]))
            moves = random_moves(source, 60)
            self.assertEqual(run(code, (0,), moves), form_run(form, moves))
        self.assertGreater(made, 150)

    def test_32_lines_and_above(self):
        for many in range(1, 40):
            form = ((0,) * many, (ONE,))
            if many + 2 <= 32:
                self.assertEqual(row_norm(spelled(form), (0,)), many)
                self.assertEqual(len(spelled(form)), many + 2)
            else:
                self.assertEqual(caught(self, TooLarge, spelled, form).many, many + 2)
        self.assertEqual(caught(self, TooLarge, spelled, ((0,) * 192, (ONE,))).many, 194)
        self.assertEqual(caught(self, TooLarge, spelled, doubling(32)).many, 35)
        self.assertEqual(caught(self, TooLarge, spelled, ((0,), chain(32))).many, 65)

    def test_above_32_in_norm(self):
        form = ((0, 0), (("a", ((1,) * 15,)), ONE))
        self.assertEqual(spelled(form).norms[0], 32)
        form = ((0, 0), (("a", ((1,) * 16,)), ONE))
        self.assertEqual(caught(self, TooLong, spelled, form).place, 0)
        form = ((0, 1, 1), (ONE, ("a", ((0,) * 16,))))
        self.assertEqual(caught(self, TooLong, spelled, form).place, 0)

    def test_no_spelled_code_is_endless(self):
        for form in FORMS:
            try:
                spelled(form)
            except (TooLarge, TooLong) as error:
                self.assertNotIsInstance(error, Endless)
