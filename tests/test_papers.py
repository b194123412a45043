import unittest

from calltrim.claims import answer_of, question_of
from calltrim.clashes import clash_moves, facts
from calltrim.codes import Code
from calltrim.errors import InvalidQuestion
from calltrim.papers import claim_holds, paper_of
from calltrim.plans import Plan
from calltrim.runs import shortest
from bounds import codes_near_the_bounds, random_long_code
from claim_reference import (
    code_questions, holds_as_written, is_claim_as_written, is_question_as_written, norm_of, other_claims,
    plan_questions)
from mutants import ANY_VALUES, changed, with_odd_parts
from plan_support import BACK, EMPTY, NO_SLOTS, PATH, RECURSIVE, RING, SAMPLES, any_plan, do, plans_near_the_bounds
from refactored import layered_code, random_pair
from support import SMALL, caught, is_plain, random_code, random_row, seeded
from test_claims import CODE, CODE_CLAIMS, CODE_QUESTIONS, MORE_VALUES, PLAN_CLAIMS, PLAN_QUESTIONS

DO = ("do", "a")
# the way by answer 0 and the one by answer 1 of t meet as many events, but not the same ones
UNLIKE_WAYS = Code([("ask", "t", (4,)), ("do", "a"), ("do", "b"), BACK, ("do", "c"), ("go", 2)])
NO_JOINT = Code([("ask", "t", (3,)), ("do", "b"), BACK, ("do", "c"), BACK])


def any_code(source, turn):
    kinds = [lambda: random_code(source, source.randrange(1, 33)), lambda: random_pair(source)[0],
             lambda: random_long_code(source), lambda: layered_code(source),
             lambda: random_code(source, source.randrange(1, 8), "a")]
    return kinds[turn % len(kinds)]()


def asked(source, turn):
    """Random codes and plans with questions."""
    code, plan = any_code(source, turn), any_plan(source, turn)
    return [(code, question) for question in code_questions(source, code)] + [
        (plan, question) for question in plan_questions(source, plan)]


class PapersTest(unittest.TestCase):
    def assert_paper(self, thing, question):
        claim, paper = answer_of(thing, question), paper_of(thing, question)
        self.assertTrue(is_plain(paper) and type(paper) is tuple)
        self.assertTrue(holds_as_written(thing, claim, paper), (claim, paper))
        self.assertIs(claim_holds(thing, claim, paper), True)
        for other in other_claims(thing, claim):
            self.assertIs(claim_holds(thing, other, paper), False)
        return claim, paper

    def test_by_hand(self):
        for question, claim, paper in [
                (("reached", (1,), 3), ("reached", (1,), 3), (1, 2, 3)),
                (("reached", (3, 0), 0), ("reached", (3, 0), 0), (0,)),
                (("idle", (0,), 5), None, None), (("depth", 3), ("depth", 3, 0), ((), (-1, -1, -1, 0, -1, -1))),
                (("reached", (0,), 5), ("idle", (0,), 5), (0, 1, 2, 3)),
                (("same", (), (3,)), ("same", (), (3,)), ((), (), ()))]:
            if claim is None:
                self.assertIs(caught(self, InvalidQuestion, paper_of, CODE, question).value, question)
                continue
            self.assertEqual((answer_of(CODE, question), paper_of(CODE, question)), (claim, paper))
            self.assertIs(claim_holds(thing=CODE, claim=claim, paper=paper), True)
        self.assertEqual(paper_of(thing=NO_SLOTS, question=("cells",))[2:], ((), ()))
        self.assertEqual(paper_of(RECURSIVE, ("save", 0, 2, 0)), facts(RECURSIVE))
        self.assertEqual(paper_of(RECURSIVE, ("clash", (), (0, 0), (1, 0))), clash_moves(RECURSIVE, (), (0, 0), (1, 0)))

    def test_random_questions(self):
        source = seeded(280)
        seen = {}
        for turn in range(150):
            for thing, question in asked(source, turn):
                claim, _ = self.assert_paper(thing, question)
                seen[claim[0]] = seen.get(claim[0], 0) + 1
        self.assertEqual(len(seen), 15)
        self.assertGreater(min(seen.values()), 5)

    def test_each_level_of_rows(self):
        source = seeded(281)
        seen = {}
        for turn in range(60):
            code = any_code(source, turn)
            row = random_row(source, code, 6)
            for level in range(norm_of(code, row) + 1):
                claim, _ = self.assert_paper(code, ("joint", row, level))
                seen[claim[0]] = seen.get(claim[0], 0) + 1
        self.assertGreater(min(seen.values()), 50)

    def test_other_rows_that_do_the_same(self):
        code = Code([DO, ("go", 5), ("ask", "t", (0,)), ("do", "a"), ("call", 5), ("do", "b"), BACK])
        for left, right in (((0, 5), (3,)), ((4, 0), (5, 1, 0)), ((3,), (0, 1)), ((6,), ())):
            for question in (("same", left, right), ("same", right, left)):
                self.assertEqual(self.assert_paper(code, question)[0], question)

    def test_questions_by_hand(self):
        for question in CODE_QUESTIONS:
            self.assert_paper(CODE, question)
        for question in PLAN_QUESTIONS:
            self.assert_paper(RECURSIVE, question)
        for code in (UNLIKE_WAYS, NO_JOINT, SMALL):
            for place in range(len(code)):
                for question in [("events", place), ("depth", place), ("form", (place,)), ("joint", (place,), 0),
                                 ("joint", (place,), code.norms[place]), ("joint", (place, place), code.norms[place])]:
                    self.assert_paper(code, question)

    def test_near_the_bounds(self):
        source = seeded(282)
        for code in codes_near_the_bounds():
            for question in code_questions(source, code):
                self.assert_paper(code, question)
            self.assert_paper(code, ("same", (0,) * 6, (1,) * 6 if len(code) > 1 else ()))
        for plan in [*SAMPLES, *plans_near_the_bounds(source)]:
            for question in plan_questions(source, plan):
                self.assert_paper(plan, question)

    def test_errors(self):
        for thing in (CODE, RECURSIVE):
            for value in [*MORE_VALUES, *ANY_VALUES, *CODE_CLAIMS, *PLAN_CLAIMS]:
                if not is_question_as_written(thing, value):
                    self.assertIs(caught(self, InvalidQuestion, paper_of, thing, value).value, value)

    def test_equal_calls_return_equal_papers(self):
        source = seeded(283)
        for turn in range(20):
            for thing, question in asked(source, turn):
                twin = Plan(thing.commons, thing.procedures) if isinstance(thing, Plan) else Code(list(thing.lines))
                self.assertEqual(paper_of(twin, question), paper_of(thing, question))


class ClaimHoldsTest(unittest.TestCase):
    def test_papers_changed_at_one_place(self):
        source = seeded(284)
        seen = {}
        for turn in range(150):
            for thing, question in asked(source, turn):
                claim, paper = answer_of(thing, question), paper_of(thing, question)
                for _ in range(3):
                    value = changed(source, paper)
                    expected = holds_as_written(thing, claim, value)
                    self.assertIs(claim_holds(thing, claim, value), expected, (claim, value))
                    seen.setdefault(claim[0], set()).add(expected)
        self.assertEqual(sorted(word for word in seen if seen[word] == {True, False}), sorted(seen))

    def test_claims_changed_at_one_place(self):
        source = seeded(285)
        for turn in range(100):
            for thing, question in asked(source, turn):
                claim, paper = answer_of(thing, question), paper_of(thing, question)
                for _ in range(3):
                    value = changed(source, claim)
                    found = claim_holds(thing, value, paper)
                    self.assertIs(found, holds_as_written(thing, value, paper), (value, paper))
                    if found:
                        self.assertEqual(answer_of(thing, question_of(thing, value)), value)

    def test_untrue_claims_have_no_paper(self):
        source = seeded(286)
        for turn in range(60):
            found = asked(source, turn)
            papers = [paper_of(thing, question) for thing, question in found]
            for thing, question in found:
                claim = answer_of(thing, question)
                for other in other_claims(thing, claim):
                    for paper in papers:
                        self.assertIs(claim_holds(thing, other, paper), False)
                for paper in papers:
                    self.assertIs(claim_holds(thing, claim, paper), holds_as_written(thing, claim, paper))

    def test_a_list_or_a_bool_anywhere(self):
        source = seeded(287)
        for turn in range(6):
            for thing, question in asked(source, turn):
                claim, paper = answer_of(thing, question), paper_of(thing, question)
                if len(repr(paper)) > 4000:
                    continue
                for value in with_odd_parts(paper):
                    self.assertIs(claim_holds(thing, claim, value), False)
                for value in with_odd_parts(claim):
                    self.assertIs(claim_holds(thing, value, paper), False)

    def test_any_value(self):
        for thing, questions in ((CODE, CODE_QUESTIONS), (RECURSIVE, PLAN_QUESTIONS)):
            for question in questions:
                claim, paper = answer_of(thing, question), paper_of(thing, question)
                for value in ANY_VALUES:
                    self.assertIs(claim_holds(thing, value, paper), False)
                    found = claim_holds(thing, claim, value)
                    self.assertIs(type(found), bool)
                    if len(repr(value)) < 1000:
                        self.assertIs(found, holds_as_written(thing, claim, value))
                    elif question not in (("same", (0,), (1,)), ("same", (), ()), ("joint", (), 0)):
                        # for these, long moves part the rows, and many rules do for rows that do nothing
                        self.assertIs(found, False)
                for value in MORE_VALUES:
                    expected = is_claim_as_written(thing, value) and holds_as_written(thing, value, paper)
                    self.assertIs(claim_holds(thing, value, paper), expected)
                for value in CODE_CLAIMS + PLAN_CLAIMS:
                    self.assertIs(claim_holds(thing, value, paper), holds_as_written(thing, value, paper))

    def test_joints_by_keys_of_ones_own_making(self):
        # a, a as one number of norm 2 has no last number of norm 1
        code = Code([DO, DO, BACK])
        whole = ((("a", ((1,),)), ("a", ((),))), ((0, (0,)), (1, (1,))), ((0, (0,)), (1, (1,))))
        parts = ((("a", ((),)),), ((0, (0, 0)), (1, (0,))), ((0, (0, 0)), (1, (0,))))
        for level in range(3):
            self.assertIs(claim_holds(code, ("joint", (0,), level), whole), level != 1)
            self.assertIs(claim_holds(code, ("joint", (0,), level), parts), True)
            self.assertIs(claim_holds(code, ("no joint", (0,), level), whole), False)
            # rules that no number of the worth comes to may be endless, and many
            for more in (("b", ((2,),)), ("b", ((2, 2), (0,)))):
                self.assertIs(claim_holds(code, ("joint", (0,), level), (whole[0] + (more,), *whole[1:])), level != 1)
            many = whole[0] + (("b", ((2,),)),) * 3000
            self.assertIs(claim_holds(code, ("joint", (0,), level), (many, *whole[1:])), level != 1)
            chain = whole[0] + tuple(("b", ((at,),)) for at in range(3, 4003)) + (("b", ((),)),)
            self.assertIs(claim_holds(code, ("joint", (0,), level), (chain, *whole[1:])), level != 1)

    def test_no_joint_by_moves_of_ones_own_making(self):
        claim = ("no joint", (0,), 1)
        self.assertIs(claim_holds(NO_JOINT, claim, ((0,), (1,), ())), True)
        self.assertIs(claim_holds(NO_JOINT, claim, ((8,), (7,), (5, 5))), True)
        for paper in [((0,), (0,), ()), ((0,), (1,)), ((0,), (1,), (), ()), ((), (1,), ()), ((0,), (), ()),
                      ((0, 0), (1,), ()), ((0,), (1, 0), ()), ([0], (1,), ()), ((0,), (1,), None),
                      ((0,), (1,), (True,)), ((0,), (-1,), ())]:
            self.assertIs(claim_holds(NO_JOINT, claim, paper), False)
        for level in (0, 2):
            for paper in (((0,), (1,), ()), ((), (), ()), ((0, 0), (1, 0), ())):
                self.assertIs(claim_holds(NO_JOINT, ("no joint", (0,), level), paper), False)
        # what is left must differ behind the first moves, not within them
        self.assertIs(claim_holds(UNLIKE_WAYS, ("no joint", (0,), 1), ((0, 0), (1, 0), ())), False)
        self.assertIs(claim_holds(UNLIKE_WAYS, ("no joint", (0,), 1), ((0, 0), (1, 0), (0,))), False)
        self.assertIs(claim_holds(UNLIKE_WAYS, ("joint", (0,), 1), paper_of(UNLIKE_WAYS, ("joint", (0,), 1))), True)
        self.assertIs(claim_holds(UNLIKE_WAYS, ("no joint", (0,), 2), ((0,), (1,), ())), True)

    def test_paths(self):
        code = Code([("ask", "t", (3,)), ("go", 4), DO, BACK, ("call", 2), ("go", 0)])
        for paper, right in [((0, 1, 4, 2), True), ((0, 1, 4, 5, 0, 1, 4, 2), True), ((0, 3), False),
                             ((0, 4, 2), False), ((1, 4, 2), False), ((4, 2), True), ((2,), False), ((), False),
                             ((0, 1, 4), False),
                             ([0, 1, 4, 2], False), ((0, 1, 4, 9), False), ((False, 1, 4, 2), False), ((0, 2), False),
                             ((0, 1, 4, 5, 0) * 5000 + (1, 4, 2), False), ((0, 1, 4, 5) * 5000 + (0, 1, 4, 2), True)]:
            self.assertIs(claim_holds(code, ("reached", (0, 4), 2), paper), right)
        self.assertIs(claim_holds(code, ("reached", (0, 4), 4), (4,)), True)
        self.assertIs(claim_holds(code, ("reached", (0, 4), 3), (4, 2, 3)), True)

    def test_idle_places(self):
        code = Code([DO, ("go", 3), DO, BACK, ("go", 2), BACK])
        for paper, right in [((0, 1, 3), True), ((0, 1, 2, 3), True), ((0, 1, 3, 5), True), ((0, 1), False),
                             ((1, 3), False), ((0, 1, 3, 4), False), ((0, 1, 2, 3, 4), False),
                             ((0, 1, 2, 3, 5), True), ((0, 3, 1), False), ((0, 1, 3, 3), False),
                             ([0, 1, 3], False), ((0, True, 3), False), ((0, 1, 3, 9), False)]:
            self.assertIs(claim_holds(code, ("idle", (0,), 4), paper), right)
        self.assertIs(claim_holds(code, ("idle", (0,), 2), (0, 1, 2, 3)), False)
        self.assertIs(claim_holds(code, ("idle", (0, 5), 2), (0, 1, 3)), False)
        self.assertIs(claim_holds(code, ("idle", (0, 5), 2), (0, 1, 3, 5)), True)
        self.assertIs(claim_holds(code, ("idle", (0,), 3), (0, 1)), False)

    def test_events(self):
        start, rules, paper = paper_of(CODE, ("events", 0))
        self.assertIs(claim_holds(CODE, ("events", 0, 2), (start, rules, paper)), True)
        for value in [((start, rules), paper), (start, rules), (start, rules, paper, ()), (rules, start, paper),
                      (start, rules, ()), (start, rules + rules, paper), (start + start, rules, paper)]:
            self.assertIs(claim_holds(CODE, ("events", 0, 2), value), False)
        for many in (0, 1, 3, 10 ** 11):
            self.assertIs(claim_holds(CODE, ("events", 0, many), (start, rules, paper)), False)
        self.assertIs(claim_holds(CODE, ("events", 5, 2), (start, rules, paper)), paper[0] == paper_of(
            CODE, ("events", 5))[2][0])

    def test_free_saves(self):
        self.assertIs(claim_holds(RECURSIVE, ("free", 0, 2, 0), facts(RECURSIVE)), True)
        self.assertIs(claim_holds(RECURSIVE, ("free", 1, 2, 0), facts(RECURSIVE)), False)
        self.assertIs(claim_holds(RECURSIVE, ("free", 0, 2, 0), facts(RING)), False)
        # a call line that is not come to, and facts by which it is
        plan = Plan(0, [(1, (BACK, do("a", (), (0,)), ("ask", "t", (), (1,)), ("call", 0), do("b", (0,)), BACK))])
        known, saves = facts(plan), ("free", 0, 3, 0)
        self.assertEqual(known, (((0, 0),), (), ()))
        self.assertIs(claim_holds(plan, saves, known), True)
        places = tuple((0, p) for p in range(6))
        wanted = ((0, 2, 0), (0, 3, 0), (0, 4, 0))
        for value, right in [((places, wanted, ((0, 0, 0),)), False), ((places, wanted, ()), False),
                             (((places[0], places[5]), (), ()), True), ((places[:1], (), ((0, 0, 0),)), True),
                             ((places[3:], wanted[1:], ()), False), ((places[:1] + places[3:], wanted[1:], ()), True)]:
            self.assertIs(claim_holds(plan, saves, value), right and holds_as_written(plan, saves, value))
            self.assertIs(holds_as_written(plan, saves, value), right)

    def test_clash_and_apart_in_each_others_place(self):
        x, y = (0, 0), (0, 3)
        self.assertIs(claim_holds(PATH, ("apart", (), x, y), facts(PATH)), True)
        self.assertIs(claim_holds(PATH, ("clash", (), x, y), facts(PATH)), False)
        moves = clash_moves(PATH, (), (0, 0), (0, 1))
        self.assertIs(claim_holds(PATH, ("clash", (), (0, 0), (0, 1)), moves), True)
        self.assertIs(claim_holds(PATH, ("clash", (), (0, 1), (0, 0)), moves), False)
        self.assertIs(claim_holds(PATH, ("apart", (), (0, 0), (0, 1)), moves), False)
        self.assertIs(claim_holds(EMPTY, ("cells", 0), paper_of(EMPTY, ("cells",))), True)
        self.assertIs(claim_holds(EMPTY, ("cells", 0), paper_of(NO_SLOTS, ("cells",))), False)

    def test_unlike_rows(self):
        claim = ("unlike", (0,), (0, 0))
        for moves in ((1,), (1, 1), (1, 5, 5)):
            self.assertIs(claim_holds(CODE, claim, moves), True)
        for moves in ((), (0,), [1], (True,), None):
            self.assertIs(claim_holds(CODE, claim, moves), False)
        self.assertEqual(shortest(CODE, (0,)), (1,))


if __name__ == "__main__":
    unittest.main()
