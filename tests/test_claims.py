import unittest

from calltrim.cells import least_cells
from calltrim.claims import answer_of, is_claim, is_question, question_of
from calltrim.clashes import clashes, forced_saves
from calltrim.codes import Code
from calltrim.errors import InvalidClaim, InvalidQuestion
from calltrim.forms import least_events, prime_form
from calltrim.joints import joints
from calltrim.plans import Plan
from calltrim.sameness import alike
from calltrim.stacks import depth
from bounds import codes_near_the_bounds, random_long_code
from claim_reference import (
    asked_as_written, code_questions, is_claim_as_written, is_question_as_written, other_claims, plan_questions)
from mutants import ANY_VALUES, changed, with_odd_parts
from plan_reference import all_saves, all_slots
from plan_support import BACK, NO_SLOTS, RECURSIVE, SAMPLES, any_plan, plans_near_the_bounds
from refactored import random_pair
from support import SMALL, caught, is_plain, random_code, seeded
from tidy_reference import reached_as_written

CODE = Code([("ask", "t", (3,)), ("do", "a"), ("call", 0), BACK, ("do", "a"), ("go", 0)])
CODE_QUESTIONS = [
    ("same", (0,), (1,)), ("same", (), ()), ("same", (0,) * 6, (5,) * 6), ("form", (0, 1)), ("form", ()),
    ("joint", (0, 1), 3), ("joint", (), 0), ("joint", (1,), 0), ("events", 0), ("events", 5), ("depth", 0),
    ("depth", 3), ("reached", (0,), 5), ("reached", (0, 0, 1, 3), 0)]
CODE_CLAIMS = [
    ("same", (0,), (1,)), ("unlike", (0,), (1,)), ("form", (0,), (0,), (("a", ((),)),)), ("form", (), (), ()),
    ("joint", (0, 1), 3), ("no joint", (0, 1), 1), ("events", 0, 2), ("events", 0, 10 ** 11), ("depth", 0, 0),
    ("endless", 0), ("reached", (0,), 5), ("idle", (0,), 5)]
PLAN_QUESTIONS = [
    ("clash", (), (0, 0), (0, 1)), ("clash", (), (1, 0), (1, 0)), ("clash", ((0, 2, 0), (1, 2, 0)), (0, 0), (1, 0)),
    ("save", 0, 2, 0), ("save", 0, 2, 1), ("save", 1, 2, 0), ("cells",)]
PLAN_CLAIMS = [
    ("clash", (), (0, 0), (0, 1)), ("apart", (), (0, 0), (0, 1)), ("apart", ((1, 2, 0),), (1, 0), (1, 0)),
    ("save", 1, 2, 0), ("free", 1, 2, 0), ("cells", 0), ("cells", 3), ("cells", 10 ** 11)]
MORE_VALUES = [
    ("same",), ("same", (0,)), ("same", (0,), (1,), (2,)), ("same", [0], (1,)), ("same", (6,), (1,)),
    ("same", (0,) * 7, ()), ("same", (True,), (1,)), ("same", 0, 1), ("Same", (0,), (1,)), ["same", (0,), (1,)],
    ("form",), ("form", (6,)), ("form", 0), ("form", (0,), (1,)), ("form", (0,), (0,)), ("form", (0,), (0,), ()),
    ("form", (0,), (), (("a", ((),)),)), ("form", (0,), ((0,), (("a", ((),)),))), ("joint", (0,)), ("joint", (0,), 2),
    ("joint", (0,), -1), ("joint", (0,), True), ("joint", (0,), 1, 1), ("joint", 0, 0), ("joint", (0, 1), 6),
    ("no joint", (0,), 2), ("no joint", (0,)), ("events",), ("events", 6), ("events", -1), ("events", True),
    ("events", (0,)), ("events", 0, -1), ("events", 0, True), ("events", 0, None), ("events", 0, 1, 1),
    ("events", "0"), ("depth",), ("depth", 6), ("depth", False), ("depth", 0, None), ("depth", 0, -1),
    ("depth", 0, 1, 1), ("endless",), ("endless", 6), ("endless", True), ("endless", 0, 1), ("reached",),
    ("reached", (0,)), ("reached", (), 0), ("reached", (0,) * 5, 0), ("reached", [0], 0), ("reached", (0,), 6),
    ("reached", (0,), True), ("reached", (6,), 0), ("reached", 0, 0), ("idle", (0,)), ("idle", (0,), 0, 0),
    ("clash",), ("clash", ()), ("clash", (), (0, 0)), ("clash", (), (0, 1), (0, 0)), ("clash", (), (0, 0), (0, 2)),
    ("clash", (), (0, 0), (0, 1), ()), ("clash", [], (0, 0), (0, 1)), ("clash", (), [0, 0], (0, 1)),
    ("clash", ((0, 1, 0),), (0, 0), (0, 1)), ("clash", ((1, 2, 0), (0, 2, 0)), (0, 0), (0, 1)),
    ("clash", ((0, 2, False),), (0, 0), (0, 1)), ("clash", (), (0, False), (0, 1)), ("clash", (), (0, 0), (2, 0)),
    ("clash", (), 0, 1), ("apart", (), (0, 1), (0, 0)), ("save",), ("save", 0), ("save", 0, 2), ("save", 0, 1, 0),
    ("save", 0, 2, 2), ("save", 0, 9, 0), ("save", 2, 0, 0), ("save", 0, 2, False), ("save", (0, 2, 0)),
    ("save", 0, 2, 0, 0), ("free", 0, 1, 0), ("free",), ("cells", True), ("cells", -1), ("cells", None),
    ("cells", ()), ("cells", 1, 1), "cells", ("cell",), ("unlike",), ("unlike", (0,)), (("same", (0,), (1,)),),
    (None, (0,), (1,)), (0,), ("",), (SMALL,), (),
]


class QuestionsTest(unittest.TestCase):
    def test_questions_and_claims_by_hand(self):
        for thing, questions, claims, strange in (
                (CODE, CODE_QUESTIONS, CODE_CLAIMS, PLAN_QUESTIONS + PLAN_CLAIMS),
                (RECURSIVE, PLAN_QUESTIONS, PLAN_CLAIMS, CODE_QUESTIONS + CODE_CLAIMS)):
            for value in questions:
                self.assertIs(is_question(thing, value), True, value)
                self.assertIs(is_question(thing=thing, value=value), True)
                self.assertIs(is_question_as_written(thing, value), True)
            for value in claims:
                self.assertIs(is_claim(thing, value), True, value)
                self.assertIs(is_claim(thing=thing, value=value), True)
            for value in strange:
                self.assertIs(is_question(thing, value), False, value)
                self.assertIs(is_claim(thing, value), False, value)
            for value in [*questions, *claims, *MORE_VALUES, *ANY_VALUES]:
                self.assertIs(is_question(thing, value), is_question_as_written(thing, value), value)
                self.assertIs(is_claim(thing, value), is_claim_as_written(thing, value), value)

    def test_changed_at_one_place(self):
        source = seeded(270)
        seen = {True: 0, False: 0}
        for turn in range(4000):
            thing, values = [(CODE, CODE_QUESTIONS + CODE_CLAIMS), (RECURSIVE, PLAN_QUESTIONS + PLAN_CLAIMS)][turn % 2]
            value = changed(source, source.choice(values))
            question, claim = is_question_as_written(thing, value), is_claim_as_written(thing, value)
            self.assertIs(is_question(thing, value), question, value)
            self.assertIs(is_claim(thing, value), claim, value)
            seen[question] += 1
        self.assertGreater(min(seen.values()), 300)

    def test_a_list_or_a_bool_anywhere(self):
        for thing, values in ((CODE, CODE_QUESTIONS + CODE_CLAIMS), (RECURSIVE, PLAN_QUESTIONS + PLAN_CLAIMS)):
            for value in values:
                for odd in with_odd_parts(value):
                    self.assertIs(is_question(thing, odd), False)
                    self.assertIs(is_claim(thing, odd), False)

    def test_questions_of_random_things(self):
        source = seeded(271)
        for turn in range(100):
            code, plan = random_code(source, source.randrange(1, 33)), any_plan(source, turn)
            for question in code_questions(source, code):
                self.assertIs(is_question(code, question), True)
                self.assertIs(is_question(SMALL, question), is_question_as_written(SMALL, question))
                self.assertIs(is_question(plan, question), False)
            for question in plan_questions(source, plan):
                self.assertIs(is_question(plan, question), True)
                self.assertIs(is_question(NO_SLOTS, question), is_question_as_written(NO_SLOTS, question))
                self.assertIs(is_question(code, question), False)
            saves = all_saves(plan)
            for f in range(len(plan.procedures) + 1):
                for p in range(13):
                    for s in range(5):
                        self.assertIs(is_question(plan, ("save", f, p, s)), (f, p, s) in saves)

    def test_question_of(self):
        for thing, claims in ((CODE, CODE_CLAIMS), (RECURSIVE, PLAN_CLAIMS)):
            for claim in claims:
                question = question_of(thing=thing, claim=claim)
                self.assertEqual(question, asked_as_written(claim))
                self.assertTrue(is_plain(question))
                self.assertIs(is_question(thing, question), True)
        self.assertEqual(question_of(CODE, ("no joint", (0, 1), 1)), ("joint", (0, 1), 1))
        self.assertEqual(question_of(CODE, ("endless", 0)), ("depth", 0))
        self.assertEqual(question_of(CODE, ("form", (0,), (0,), (("a", ((),)),))), ("form", (0,)))
        self.assertEqual(question_of(RECURSIVE, ("cells", 7)), ("cells",))

    def test_errors(self):
        for thing in (CODE, RECURSIVE):
            for value in [*MORE_VALUES, *ANY_VALUES, *CODE_QUESTIONS, *PLAN_QUESTIONS, *CODE_CLAIMS, *PLAN_CLAIMS]:
                if not is_question_as_written(thing, value):
                    self.assertIs(caught(self, InvalidQuestion, answer_of, thing, value).value, value)
                if not is_claim_as_written(thing, value):
                    self.assertIs(caught(self, InvalidClaim, question_of, thing, value).value, value)


class AnswersTest(unittest.TestCase):
    def assert_answer(self, thing, question):
        answer = answer_of(thing, question)
        self.assertEqual(answer, self.true_claim(thing, question))
        self.assertTrue(is_plain(answer) and type(answer) is tuple)
        self.assertIs(is_claim(thing, answer), True)
        self.assertEqual(question_of(thing, answer), question)
        for other in other_claims(thing, answer):
            self.assertIs(is_claim(thing, other), True)
            self.assertEqual(question_of(thing, other), question)
        return answer[0]

    def true_claim(self, thing, question):
        word, *members = question
        if word == "same":
            return question if alike(thing, members[0], thing, members[1]) else ("unlike", *members)
        if word == "form":
            return (*question, *prime_form(thing, members[0]))
        if word == "joint":
            return question if members[1] in joints(thing, members[0]) else ("no joint", *members)
        if word == "events":
            return (*question, least_events(thing, members[0]))
        if word == "depth":
            many = depth(thing, members[0])
            return ("endless", *members) if many is None else (*question, many)
        if word == "reached":
            return question if members[1] in reached_as_written(thing, members[0]) else ("idle", *members)
        if word == "clash":
            return question if tuple(members[1:]) in clashes(thing, members[0]) else ("apart", *members)
        if word == "save":
            return question if tuple(members) in forced_saves(thing) else ("free", *members)
        return ("cells", least_cells(thing))

    def test_by_hand(self):
        self.assertEqual(answer_of(thing=CODE, question=("events", 0)), ("events", 0, 2))
        self.assertEqual(answer_of(CODE, ("depth", 0)), ("endless", 0))
        self.assertEqual(answer_of(CODE, ("depth", 3)), ("depth", 3, 0))
        self.assertEqual(answer_of(CODE, ("reached", (0,), 5)), ("idle", (0,), 5))
        self.assertEqual(answer_of(CODE, ("same", (1,), (4,))), ("same", (1,), (4,)))
        self.assertEqual(answer_of(CODE, ("form", (3, 3))), ("form", (3, 3), (), ()))
        self.assertEqual(answer_of(RECURSIVE, ("cells",)), ("cells", 3))
        self.assertEqual(answer_of(RECURSIVE, ("save", 1, 2, 0)), ("save", 1, 2, 0))
        self.assertEqual(answer_of(RECURSIVE, ("save", 0, 2, 0)), ("free", 0, 2, 0))
        self.assertEqual(answer_of(RECURSIVE, ("clash", ((1, 2, 0),), (1, 0), (1, 0))),
                         ("apart", ((1, 2, 0),), (1, 0), (1, 0)))

    def test_random_things(self):
        source = seeded(272)
        seen = {}
        for turn in range(120):
            kinds = [random_code(source, source.randrange(1, 33)), random_pair(source)[0], random_long_code(source)]
            code = kinds[turn % 3]
            for question in code_questions(source, code):
                word = self.assert_answer(code, question)
                seen[word] = seen.get(word, 0) + 1
            plan = any_plan(source, turn)
            for question in plan_questions(source, plan):
                word = self.assert_answer(plan, question)
                seen[word] = seen.get(word, 0) + 1
        self.assertEqual(len(seen), 15)
        self.assertGreater(min(seen.values()), 10)

    def test_near_the_bounds(self):
        source = seeded(273)
        for code in codes_near_the_bounds():
            for question in code_questions(source, code):
                self.assert_answer(code, question)
        for plan in [*SAMPLES, *plans_near_the_bounds(source)]:
            for question in plan_questions(source, plan):
                self.assert_answer(plan, question)

    def test_equal_things_by_turns(self):
        source = seeded(274)
        one, other = random_code(source, 20), random_code(source, 12)
        plan, more = any_plan(source, 1), any_plan(source, 3)
        asked = [(thing, question) for thing, questions in
                 ((one, code_questions(source, one)), (other, code_questions(source, other)),
                  (plan, plan_questions(source, plan)), (more, plan_questions(source, more))) for question in questions]
        answers = [answer_of(thing, question) for thing, question in asked]
        source.shuffle(asked)
        for thing, question in asked:
            twin = Plan(thing.commons, thing.procedures) if isinstance(thing, Plan) else Code(thing.lines)
            self.assertIn(answer_of(twin, question), answers)
            self.assertEqual(answer_of(twin, question), answer_of(thing, question))
        self.assertGreater(len(all_slots(plan)), 0)


if __name__ == "__main__":
    unittest.main()
