import unittest

from calltrim.codes import Code
from calltrim.errors import InvalidRow
from calltrim.formpapers import form_holds, form_paper
from calltrim.forms import is_form, prime_form
from calltrim.rules import rule_norms
from bounds import codes_near_the_bounds, random_long_code
from mutants import ANY_VALUES, changed, with_odd_parts, with_part
from paperwork import form_paper_as_written
from refactored import layered_code, random_pair
from support import BACK, SMALL, caught, is_plain, random_code, random_row, seeded

DO = ("do", "a")
ONE = ("a", ((),))
# t does b and itself twice behind answer 0, and nothing behind answer 1
NESTED = Code([("ask", "t", (4,)), ("do", "b"), ("call", 0), ("go", 0), BACK])
# t and then a, b or c behind it: there is no joint at 1
FORK = Code([("ask", "t", (3, 5)), DO, BACK, ("do", "b"), BACK, ("do", "c"), BACK])


def any_code(source, turn):
    return [random_pair(source)[turn % 2], layered_code(source), random_long_code(source),
            random_code(source, source.randrange(1, 20), "ab")][turn % 4]


class FormPaperTest(unittest.TestCase):
    def assert_paper(self, code, row):
        form, paper = prime_form(code, row), form_paper(code, row)
        self.assertTrue(is_plain(paper))
        self.assertIs(form_holds(code, row, form, paper), True)
        self.assertTrue(form_paper_as_written(code, row, form, paper))
        return form, paper

    def test_small_ones(self):
        self.assertEqual(form_paper(SMALL, ()), ((), (), ()))
        self.assertEqual(form_paper(SMALL, (0, 0)), ((), (), ()))
        three = Code([DO, DO, DO, BACK])
        self.assertEqual(form_paper(three, (1,)), (((1, (0, 0)), (2, (0,))), ((),), ((),)))
        form, paper = self.assert_paper(NESTED, (0,))
        self.assertEqual(paper, (((0, (0,)), (1, (1, 0, 0))), ((), ()), (((),), ())))
        form, paper = self.assert_paper(code=FORK, row=(0,))
        self.assertEqual(form, ((0,), (("t", ((1,), (2,), (3,))), ONE, ("b", ((),)), ("c", ((),)))))
        self.assertEqual(len(paper[1][0]), 1)
        self.assertEqual([len(moves) for moves in paper[2]], [3, 2, 1, 0])

    def test_papers_hold(self):
        source = seeded(70)
        for turn in range(300):
            code = any_code(source, turn)
            self.assert_paper(code, (0,))
            self.assert_paper(code, random_row(source, code, 6))

    def test_levels_between_norm_and_0(self):
        source = seeded(71)
        levels = 0
        for turn in range(60):
            code = random_long_code(source) if turn % 2 else layered_code(source)
            (_, rules), (_, dense, apart) = self.assert_paper(code, (0,))
            self.assertEqual([len(entries) + 1 for entries in dense], list(rule_norms(rules)))
            self.assertEqual([len(entries) for entries in apart], list(range(len(rules)))[::-1])
            levels += sum(len(entries) for entries in dense)
        self.assertGreater(levels, 300)

    def test_near_the_bounds(self):
        source = seeded(72)
        for code in codes_near_the_bounds() + [random_long_code(source) for _ in range(20)]:
            for row in ((0,), (0,) * 6, (len(code) - 1, 1, 0)):
                paper = form_paper(code, row)
                self.assertIs(form_holds(code, row, prime_form(code, row), paper), True)

    def test_errors(self):
        for value in [[], [0], (7,), (True,), (-1,), (0,) * 7, *ANY_VALUES]:
            if value not in ((), (0,)):
                self.assertIs(caught(self, InvalidRow, form_paper, FORK, value).value, value)


class FormHoldsTest(unittest.TestCase):
    def test_paper_changed_at_one_place(self):
        source = seeded(73)
        held = 0
        for turn in range(200):
            code, row = any_code(source, turn), (0,)
            form, paper = prime_form(code, row), form_paper(code, row)
            for _ in range(15):
                value = changed(source, paper)
                holds = form_holds(code, row, form, value)
                self.assertIs(holds, form_paper_as_written(code, row, form, value), value)
                held += holds
        self.assertGreater(held, 100)

    def test_form_changed_at_one_place(self):
        source = seeded(74)
        forms = 0
        for turn in range(200):
            code, row = any_code(source, turn), (0,)
            form, paper = prime_form(code, row), form_paper(code, row)
            for _ in range(15):
                value = changed(source, form)
                plain = value == form and is_form(value)
                self.assertIs(form_holds(code, row, value, paper), plain, value)
                forms += is_form(value) and not plain
        self.assertGreater(forms, 100)

    def test_a_list_or_a_bool_anywhere(self):
        source = seeded(75)
        for turn in range(8):
            code = any_code(source, turn)
            form, paper = prime_form(code, (0,)), form_paper(code, (0,))
            for value in with_odd_parts(paper):
                self.assertIs(form_holds(code, (0,), form, value), False)
            for value in with_odd_parts(form):
                self.assertIs(form_holds(code, (0,), value, paper), False)

    def test_moves_longer_and_shorter(self):
        form, paper = prime_form(FORK, (0,)), form_paper(FORK, (0,))
        table, (((one, other, parted),), *rest), apart = paper

        def holds(*moves):
            return form_holds(FORK, (0,), form, (table, ((moves,), *rest), apart))

        self.assertIs(holds(one, other, parted), True)
        self.assertIs(holds(other, one, parted), True)
        # all moves part what is left here: the next events differ
        self.assertIs(holds(one, other, (5, 6, 7)), True)
        self.assertIs(holds((3,), (7,), ()), True)
        self.assertIs(holds((3,), (6,), ()), False)
        self.assertIs(holds(one, one, parted), False)
        self.assertIs(holds(one + (0,), other, parted), False)
        self.assertIs(holds(one, (), parted), False)
        self.assertIs(holds(one, other), False)
        self.assertIs(holds(one, other, parted, parted), False)
        self.assertIs(holds(one, list(other), parted), False)
        long = (1, 2) * 200
        self.assertIs(form_holds(FORK, (0,), form, (table, paper[1], ((long,) * 3, *apart[1:]))), True)
        self.assertIs(form_holds(FORK, (0,), form, (table, paper[1], ((long,) * 2, *apart[1:]))), False)
        self.assertIs(form_holds(FORK, (0,), form, (table, paper[1], ((long,) * 4, *apart[1:]))), False)

    def test_a_rule_split_in_two_that_are_alike(self):
        code = Code([("ask", "t", (2,)), DO, DO, BACK])
        self.assertEqual(prime_form(code, (0,)), ((0, 1), (("t", ((1,), ())), ONE)))
        split = ((0, 1), (("t", ((2,), ())), ONE, ONE))
        self.assertIs(is_form(split), True)
        table = ((0, (0, 1)), (1, (2, 1)), (2, (1,)))
        for moves in ((), (0,), (0, 0), (5,)):
            self.assertIs(form_holds(code, (0,), split, (table, ((), (), ()), (((), ()), (moves,), ()))), False)
        whole = prime_form(code, (0,))
        table = ((0, (0, 1)), (1, (1, 1)), (2, (1,)))
        self.assertIs(form_holds(code, (0,), whole, (table, ((), ()), (((),), ()))), True)

    def test_two_rules_put_in_one(self):
        # a, b as one number of norm 2 has a joint
        code = Code([DO, ("do", "b"), BACK])
        whole = ((0,), (("a", ((1,),)), ("b", ((),))))
        self.assertIs(is_form(whole), True)
        table = ((0, (0,)), (1, (1,)))
        for moves in (((0,), (0,), ()), ((0,), (0,), (0,)), ((0,), (1,), ()), ()):
            self.assertIs(form_holds(code, (0,), whole, (table, ((moves,), ()), (((),), ()))), False)

    def test_other_rows(self):
        source = seeded(76)
        for turn in range(100):
            code = any_code(source, turn)
            form, paper = prime_form(code, (0,)), form_paper(code, (0,))
            for row in [random_row(source, code, 2), (0, 0), (), (len(code) - 1,)]:
                holds = form_holds(code, row, form, paper)
                self.assertIs(holds, form_paper_as_written(code, row, form, paper))
                self.assertTrue(not holds or prime_form(code, row) == form)
                other = prime_form(code, row)
                self.assertIs(form_holds(code, row, other, form_paper(code, row)), True)

    def test_any_values(self):
        form, paper = prime_form(FORK, (0,)), form_paper(FORK, (0,))
        paths = [(), (0,), (0, 0), (0, 0, 0), (0, 0, 1), (0, 0, 1, 0), (1,), (1, 0), (1, 0, 0), (1, 0, 0, 0),
                 (1, 0, 0, 2), (1, 1), (2,), (2, 0), (2, 0, 0), (2, 3)]
        for value in ANY_VALUES:
            if value != (0,):
                self.assertIs(form_holds(FORK, value, form, paper), False)
            self.assertIs(form_holds(FORK, (0,), value, paper), False)
            self.assertIs(form_holds(code=FORK, row=(0,), form=form, paper=value), False)
            for path in paths:
                odd = with_part(paper, path, value)
                self.assertIs(form_holds(FORK, (0,), form, odd) in (True, False), True)
        for value in ([], [0], (0, 7), (True,), (False,)):
            self.assertIs(form_holds(FORK, value, form, paper), False)
        self.assertIs(form_holds(SMALL, (0,) * 6, ((), ()), ((), (), ())), True)
        self.assertIs(form_holds(SMALL, (0,) * 7, ((), ()), ((), (), ())), False)
        self.assertIs(form_holds(SMALL, (), ((), ()), ((), (), ((),))), False)


if __name__ == "__main__":
    unittest.main()
