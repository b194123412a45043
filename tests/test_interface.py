"""The interface at the end of the document, and what points 1 to 4 say of the whole program."""

import importlib
import inspect
import unittest

from calltrim.areas import area_holds, area_paper
from calltrim.building import built, built_holds, built_paper
from calltrim.cells import cells_hold, cells_paper
from calltrim.claims import answer_of, is_claim, is_question
from calltrim.clashes import clash_moves, clashes, facts, forced_saves, keep_apart, shows_clash, shows_forced
from calltrim.codes import Code, is_line
from calltrim.cuts import is_cut
from calltrim.desk import Desk
from calltrim.errors import InvalidMoves, TrimError
from calltrim.formpapers import form_holds, form_paper
from calltrim.forms import is_form, prime_form
from calltrim.images import assembled
from calltrim.keys import key_holds, key_of
from calltrim.papers import claim_holds, paper_of
from calltrim.placements import is_placement, is_saves, placed
from calltrim.plans import Plan, plan_run
from calltrim.runs import is_moves, is_row, run
from calltrim.sameness import parting_holds
from calltrim.shortening import short_paper, shortened, stages_hold
from calltrim.stacks import depth_holds, depth_paper
from calltrim.tidying import is_entries
from calltrim.words import is_word
from mutants import ANY_VALUES, MOST_MEMBERS, nested
from plan_support import BACK, RECURSIVE, RING
from support import SMALL, caught, seeded

INTERFACE = """
words: is_word(value) word_parts(word) word_of(name, reads, writes)
codes: is_line(value, many) joined(one, other)
texts: read_code(text)
runs: is_row(code, value) row_norm(code, row) front(code, row) is_moves(value) run(code, row, moves)
runs: returns(code, row, moves) shortest(code, row)
sameness: alike(one, left, other, right) parting(one, left, other, right) parting_holds(one, left, other, right, value)
joints: first_reaches(code, row, moves, level) joints(code, row)
forms: is_form(value) form_norm(form, number) form_run(form, moves) prime_form(code, row) least_events(code, place)
forms: spelled(form)
keys: key_of(one, left, other, right) key_holds(one, left, other, right, value)
formpapers: form_paper(code, row) form_holds(code, row, form, paper)
stacks: stack_run(code, place, moves) depth(code, place) depth_paper(code, place) depth_holds(code, place, many, paper)
tidying: is_entries(code, value) reached(code, entries=(0,)) landed(code, place) is_skimmed(code, entries=(0,))
tidying: skimmed(code, entries=(0,)) is_shared(code, entries=(0,)) shared(code, entries=(0,))
putting: can_put_in(code, entries, place) put_in(code, entries, place)
cuts: is_cut(code, entries, value) saved(cut) cut_out(code, entries, cut) best_cut(code, entries=(0,))
shortening: shortened(code, entries=(0,)) is_short(code, entries=(0,)) short_paper(code, entries=(0,))
shortening: stages_hold(code, entries, stages, paper)
areas: needed(tables) area(tables) area_paper(tables) area_holds(tables, many, paper)
images: assembled(code) machine_run(image, place, moves) machine_steps(image, place, moves)
plans: plan_run(plan, moves)
placements: is_placement(plan, value) is_saves(plan, value) cells_run(plan, placement, saves, moves)
placements: placed(plan, placement, saves) cell_run(code, moves)
clashes: clashes(plan, saves) shows_clash(plan, saves, x, y, moves) clash_moves(plan, saves, x, y) facts(plan)
clashes: keep_apart(plan, saves, x, y, value) forced_saves(plan) shows_forced(plan, save, moves)
rightness: is_right(plan, placement, saves) wrong_moves(plan, placement, saves)
cells: least_cells(plan) laid(plan) cells_paper(plan) cells_hold(plan, many, paper)
building: built(plan) built_run(value, moves) built_paper(plan) built_holds(plan, value, paper)
claims: is_question(thing, value) is_claim(thing, value) answer_of(thing, question) question_of(thing, claim)
papers: paper_of(thing, question) claim_holds(thing, claim, paper)
desk: same_state(one, other)
"""
CLASSES = {
    ("codes", "Code"): "__init__(self, lines) __len__(self) __eq__(self, other) __getitem__(self, place) "
                       "__add__(self, other) leads(self, place) put(self, place, line) take(self, place) "
                       "turn(self, place, line) __str__(self)",
    ("images", "Image"): "__init__(self, words, octets) __eq__(self, other) __str__(self)",
    ("plans", "Plan"): "__init__(self, commons, procedures) __eq__(self, other)",
    ("desk", "Desk"): "__init__(self, code) put(self, place, line) take(self, place) turn(self, place, line) "
                      "shorten(self, entries=(0,)) watch(self, question) leave(self, question) undo(self) redo(self) "
                      "claim(self, question) paper(self, question) report(self)",
}
CODE = Code([("ask", "t", (3,)), ("call", 4), ("go", 0), BACK, ("do", "a"), ("do", "a"), BACK])


def signatures(text):
    """The names with their parameters."""
    return [part.strip() + ")" for part in text.split(")") if part.strip()]


class InterfaceTest(unittest.TestCase):
    def test_functions(self):
        many = 0
        for line in INTERFACE.strip().split("\n"):
            name, text = line.split(": ", 1)
            module = importlib.import_module(f"calltrim.{name}")
            for signature in signatures(text.replace("(0,)", "ZERO")):
                called = signature[:signature.index("(")]
                found = getattr(module, called)
                self.assertEqual(found.__module__, module.__name__)
                self.assertEqual(called + str(inspect.signature(found)), signature.replace("ZERO", "(0,)"))
                many += 1
        self.assertEqual(many, 86)

    def test_classes(self):
        for (name, called), text in CLASSES.items():
            module = importlib.import_module(f"calltrim.{name}")
            kind = getattr(module, called)
            self.assertEqual(kind.__module__, module.__name__)
            for signature in signatures(text.replace("(0,)", "ZERO")):
                method = signature[:signature.index("(")]
                self.assertIn(method, vars(kind))
                self.assertEqual(method + str(inspect.signature(vars(kind)[method])), signature.replace("ZERO", "(0,)"))

    def test_attributes(self):
        for thing, names in ((CODE, "lines norms"), (assembled(CODE), "words octets code addresses"),
                             (RING, "commons procedures"), (Desk(CODE), "code watched many")):
            for name in names.split():
                self.assertIn(name, vars(thing))

    def test_objects_are_not_iterable(self):
        for thing in (CODE, assembled(CODE), RING, Desk(CODE)):
            self.assertRaises(TypeError, iter, thing)
            self.assertRaises(TypeError, list, thing)
            self.assertRaises(TypeError, tuple, thing)

    def test_entries_left_out(self):
        for name in ("tidying", "cuts", "shortening"):
            module = importlib.import_module(f"calltrim.{name}")
            for called in ("reached", "is_skimmed", "skimmed", "is_shared", "shared", "best_cut", "shortened",
                           "is_short", "short_paper"):
                function = getattr(module, called, None)
                if function is not None:
                    self.assertEqual(function(CODE), function(CODE, (0,)))
                    self.assertEqual(function(code=CODE), function(CODE, entries=(0,)))


def strange_values(source, many):
    """Random values of all kinds, some of them deep, some of them long."""
    leaves = [0, 1, 2, 3, -1, 7, 10 ** 11, True, False, None, "", "a", "join", "share", "given", "do", "same", "push",
              (), [], SMALL, RING, (0,), ("back",), ("a", ((),)), ((0, 0),)]

    def value(deep):
        turn = source.random()
        if deep == 0 or turn < 0.3:
            return source.choice(leaves)
        members = [value(deep - 1) for _ in range(source.randrange(5))]
        return members if turn > 0.95 else tuple(members)

    return [value(source.randrange(6)) for _ in range(many)]


LONG = [
    (("join", 0, 1, (0,), (0,)),) * 5000, ((0, 0, 0),) * 7000, tuple((0, at, 0) for at in range(7000)),
    tuple(range(MOST_MEMBERS)), ((0, 0), (0, 1)) * 5000, ("join",) * MOST_MEMBERS, nested(59, "join"),
    ("join", 0, 1, nested(58, 0), nested(58, 0)), ("share", (BACK,) * MOST_MEMBERS, (0,)),
    ((), (), ("given", (BACK,), (0,)), ((), (1,) * MOST_MEMBERS, 0)), (((0,) * MOST_MEMBERS, ()), (), (), ()),
    ("same", (0,) * MOST_MEMBERS, ()), ("form", (0,), (0,) * MOST_MEMBERS, ()), ("reached", (0,) * MOST_MEMBERS, 0),
    ("clash", ((0, 2, 0),) * 7000, (0, 0), (0, 1)), ("a" * 20000, 0), ("events", 0, 10 ** 11), ("cells", 10 ** 11),
    ((("a", ((0,) * 20000,)),), ((0, (0,) * 5000),), ()), [nested(58, ())] * 100, ((), (), (), (), (), (), ()),
]


class AnyValueTest(unittest.TestCase):
    """Functions for any value return a bool or raise what is described, whatever they get."""

    def looks(self):
        stages, paper = shortened(CODE), short_paper(CODE)
        form, moves = prime_form(CODE, (0,)), (0, 0, 0, 1)
        key, tables = key_of(CODE, (0,), CODE, (2,)), ((0, 1), (1, 2))
        cells, value, told = cells_paper(RECURSIVE), built(RECURSIVE), built_paper(RECURSIVE)
        claim, asked = answer_of(CODE, ("depth", 0)), ("clash", (), (0, 0), (1, 0))
        return [
            (is_word, (None,)), (is_line, (None, 3)), (is_row, (CODE, None)), (is_moves, (None,)), (is_form, (None,)),
            (is_entries, (CODE, None)), (is_cut, (CODE, (0,), None)), (is_placement, (RECURSIVE, None)),
            (is_saves, (RECURSIVE, None)), (is_question, (CODE, None)), (is_claim, (CODE, None)),
            (is_question, (RECURSIVE, None)), (is_claim, (RECURSIVE, None)),
            (parting_holds, (CODE, (0,), CODE, (1,), None)),
            (key_holds, (CODE, (0,), CODE, (2,), key)), (form_holds, (CODE, (0,), form, form_paper(CODE, (0,)))),
            (depth_holds, (CODE, 0, 1, depth_paper(CODE, 0))), (stages_hold, (CODE, (0,), stages, paper)),
            (area_holds, (tables, 3, area_paper(tables))), (cells_hold, (RECURSIVE, 3, cells)),
            (shows_clash, (RECURSIVE, (), (0, 0), (1, 0), moves)), (shows_forced, (RECURSIVE, (1, 2, 0), moves)),
            (keep_apart, (RECURSIVE, (), (0, 0), (0, 0), facts(RECURSIVE))), (built_holds, (RECURSIVE, value, told)),
            (claim_holds, (CODE, claim, paper_of(CODE, ("depth", 0)))),
            (claim_holds, (RECURSIVE, asked, clash_moves(RECURSIVE, (), (0, 0), (1, 0))))]

    def test_strange_values(self):
        source = seeded(300)
        known = (CODE, RECURSIVE)
        for function, arguments in self.looks():
            for at, argument in enumerate(arguments):
                if argument in known or (function in (shows_clash, keep_apart) and at == 1) or (
                        function is is_line and at == 1) or (function is is_cut and at == 1):
                    continue
                for value in [*strange_values(source, 60), *LONG, *ANY_VALUES]:
                    found = function(*arguments[:at], value, *arguments[at + 1:])
                    self.assertIs(type(found), bool)

    def test_strange_values_deep_within(self):
        source = seeded(301)
        for function, arguments in self.looks():
            for at, argument in enumerate(arguments):
                if not isinstance(argument, tuple) or (function in (shows_clash, keep_apart) and at == 1) or (
                        function is is_cut and at == 1):
                    continue
                for value in [*strange_values(source, 60), *LONG]:
                    found = function(*arguments[:at], put_within(source, argument, value), *arguments[at + 1:])
                    self.assertIs(type(found), bool)


def put_within(source, thing, value):
    """The thing with the value somewhere within, or behind its members."""
    if not isinstance(thing, tuple) or not thing or source.random() < 0.15:
        return value
    at = source.randrange(len(thing))
    if source.random() < 0.1:
        return (*thing, value)
    return (*thing[:at], put_within(source, thing[at], value), *thing[at + 1:])


class ArgumentsTest(unittest.TestCase):
    def test_lists_are_not_changed_and_have_no_later_effect(self):
        lines, procedures = list(CODE.lines), list(RECURSIVE.procedures)
        code, plan = Code(lines), Plan(1, procedures)
        self.assertEqual((lines, procedures), (list(CODE.lines), list(RECURSIVE.procedures)))
        ahead = (run(code, (0,), (0, 0)), plan_run(plan, (0, 0)), forced_saves(plan))
        lines.clear()
        procedures.clear()
        self.assertEqual((run(code, (0,), (0, 0)), plan_run(plan, (0, 0)), forced_saves(plan)), ahead)
        self.assertEqual((code, plan), (CODE, RECURSIVE))
        octets = list(assembled(CODE).octets)
        self.assertEqual(type(assembled(CODE))(assembled(CODE).words, octets), assembled(CODE))
        self.assertEqual(octets, list(assembled(CODE).octets))

    def test_errors_keep_their_arguments_themselves(self):
        moves = [0, [1]]
        error = caught(self, InvalidMoves, plan_run, RECURSIVE, moves)
        self.assertIs(error.value, moves)
        self.assertEqual(moves, [0, [1]])
        self.assertIsInstance(error, TrimError)

    def test_objects_stay_as_they_are(self):
        code, plan = Code(CODE.lines), Plan(1, RECURSIVE.procedures)
        ahead = [dict(vars(code)), dict(vars(plan))]
        for _ in range(2):
            for question in (("same", (0,), (1,)), ("form", (0,)), ("joint", (0,), 1), ("depth", 0), ("events", 0)):
                paper_of(code, question)
            built_holds(plan, built(plan), built_paper(plan))
            cells_hold(plan, 3, cells_paper(plan))
            clashes(plan, forced_saves(plan))
            placed(plan, ((1, 2), (3,)), ())
            shortened(code)
            self.assertEqual([vars(code), vars(plan)], ahead)


if __name__ == "__main__":
    unittest.main()
