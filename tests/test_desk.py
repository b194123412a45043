import unittest

from calltrim.claims import answer_of, is_question
from calltrim.codes import Code
from calltrim.desk import Desk, same_state
from calltrim.errors import (
    Endless, InvalidEntries, InvalidLine, InvalidNumber, InvalidQuestion, NothingToUndo, TooLarge, TooLong, TrimError,
    Undefined)
from calltrim.papers import claim_holds, paper_of
from calltrim.shortening import shortened
from bounds import codes_near_the_bounds, random_long_code
from claim_reference import code_questions
from mutants import ANY_VALUES
from support import BACK, SMALL, caught, is_plain, random_code, random_line, seeded
from test_shortening import CUT_CODE, PUT_CODE

DO = ("do", "a")
LOOP = Code([("ask", "t", (3,)), DO, ("go", 0), BACK])
DEEDS = ("put", "take", "turn", "shorten", "watch", "leave", "undo", "redo")


class PlainDesk:
    """A desk as plainly as points 44 and 45 say it: all states are kept, and each look is taken anew."""

    def __init__(self, code):
        self.states, self.at = [(code, ())], 0
        self.kept, self.told = {}, ()

    def state(self):
        return self.states[self.at]

    def deed(self, name, *arguments):
        code, watched = self.state()
        returned = None
        if name in ("put", "take", "turn"):
            state = (getattr(code, name)(*arguments), watched)
        elif name == "shorten":
            _, lines, returned = shortened(code, *arguments)[-1]
            state = (Code(lines), watched)
        elif name == "watch":
            if not is_question(code, arguments[0]):
                raise InvalidQuestion(arguments[0])
            state = (code, watched if arguments[0] in watched else (*watched, arguments[0]))
        elif name == "leave":
            if not self.is_watched(arguments[0]):
                raise Undefined("watched")
            state = (code, tuple(question for question in watched if question != arguments[0]))
        elif name == "undo":
            if self.at == 0:
                raise NothingToUndo("undo")
            self.at -= 1
        else:
            if self.at == len(self.states) - 1:
                raise NothingToUndo("redo")
            self.at += 1
        if name not in ("undo", "redo"):
            self.states[self.at + 1:] = [state]
            self.at += 1
        self.look(watched)
        return returned

    def is_watched(self, question):
        return is_plain(question) and question in self.state()[1]

    def look(self, before):
        code, watched = self.state()
        kept, told = {}, []
        for question in watched:
            asked = is_question(code, question)
            anew = (answer_of(code, question), paper_of(code, question)) if asked else (None, None)
            old = self.kept.get(question)
            if question not in before:
                kept[question] = anew
                told.append("new")
            elif not asked:
                kept[question] = anew
                told.append("none")
            elif old[0] is not None and claim_holds(code, *old):
                kept[question] = old
                told.append("kept")
            else:
                kept[question] = anew
                told.append("renewed" if old[0] == anew[0] else "changed")
        self.kept, self.told = kept, tuple(told)


def led(code, *deeds):
    desk = Desk(code)
    for name, *arguments in deeds:
        getattr(desk, name)(*arguments)
    return desk


def state_of(desk):
    """All that a desk shows."""
    return (desk.code, desk.watched, desk.many, desk.report(),
            [(desk.claim(question), desk.paper(question)) for question in desk.watched])


def random_deed(source, plain):
    code, watched = plain.state()
    name = source.choice(DEEDS + ("turn", "watch", "undo"))
    if name in ("put", "turn"):
        place = source.randrange(len(code) + 1)
        many = len(code) + (1 if name == "put" else 0)
        return name, place, random_line(source, many, "ab", place >= many - 1)
    if name == "take":
        return name, source.randrange(len(code) + 1)
    if name == "shorten":
        entries = tuple(source.randrange(len(code)) for _ in range(source.choice([1, 1, 2, 4])))
        return source.choice([(name,), (name, entries), (name, (len(code),))])
    if name == "watch":
        questions = code_questions(source, code) + [("depth", 9), ("events", 30), ("joint", (0,), 5)] + list(watched)
        question = source.choice(questions)
        if len(watched) >= 8 and question not in watched:
            return "leave", source.choice(watched)
        return name, question
    if name == "leave":
        return name, source.choice([*watched, ("depth", 0), ("events", True), None])
    return (name,)


class DeedsTest(unittest.TestCase):
    def assert_same_as(self, desk, plain):
        code, watched = plain.state()
        self.assertEqual(desk.code, code)
        self.assertEqual(desk.watched, watched)
        self.assertEqual(desk.many, plain.at)
        self.assertEqual(desk.report(), plain.told)
        self.assertTrue(is_plain(desk.watched) and is_plain(desk.report()))
        for question in watched:
            claim, paper = plain.kept[question]
            self.assertEqual((desk.claim(question), desk.paper(question)), (claim, paper))
            if is_question(code, question):
                self.assertEqual(claim, answer_of(code, question))
                self.assertIs(claim_holds(code, desk.claim(question), desk.paper(question)), True)
            else:
                self.assertEqual((claim, paper), (None, None))

    def test_random_rows_of_deeds(self):
        source = seeded(290)
        seen, told = {}, {}
        for turn in range(60):
            code = random_code(source, source.choice([1, 4, 8, 20, 31, 32]), "ab")
            desk, plain = Desk(code), PlainDesk(code)
            for _ in range(40):
                name, *arguments = random_deed(source, plain)
                ahead = state_of(desk)
                try:
                    expected = plain.deed(name, *arguments)
                except TrimError as error:
                    found = caught(self, type(error), getattr(desk, name), *arguments)
                    self.assertEqual(vars(found), vars(error))
                    self.assertEqual(state_of(desk), ahead)
                    name = "error"
                else:
                    self.assertEqual(getattr(desk, name)(*arguments), expected)
                seen[name] = seen.get(name, 0) + 1
                self.assert_same_as(desk, plain)
                for word in desk.report():
                    told[word] = told.get(word, 0) + 1
        self.assertEqual(sorted(seen), sorted((*DEEDS, "error")))
        self.assertGreater(min(seen.values()), 30)
        self.assertEqual(sorted(told), ["changed", "kept", "new", "none", "renewed"])
        self.assertGreater(min(told.values()), 5)

    def test_up_to_the_bounds(self):
        source = seeded(291)
        for code in [random_long_code(source), codes_near_the_bounds()[3], codes_near_the_bounds()[4]]:
            desk, plain = Desk(code), PlainDesk(code)
            deeds = [("watch", question) for question in code_questions(source, code)[:8]]
            while len(deeds) < 60:
                deeds.append(source.choice([("turn", source.randrange(31), DO), ("undo",), ("redo",), ("shorten",),
                                            ("take", 3), ("put", 2, DO), ("turn", 7, ("go", 31))]))
            for name, *arguments in deeds:
                try:
                    plain.deed(name, *arguments)
                except TrimError as error:
                    caught(self, type(error), getattr(desk, name), *arguments)
                else:
                    getattr(desk, name)(*arguments)
                self.assert_same_as(desk, plain)
            while desk.many:
                desk.undo()
            self.assertEqual((desk.code, desk.watched), (code, ()))

    def test_a_new_desk(self):
        desk = Desk(code=LOOP)
        self.assertEqual((desk.code, desk.watched, desk.many, desk.report()), (LOOP, (), 0, ()))
        self.assertEqual(caught(self, NothingToUndo, desk.undo).word, "undo")
        self.assertEqual(caught(self, NothingToUndo, desk.redo).word, "redo")
        for call in (desk.claim, desk.paper, desk.leave):
            self.assertEqual(caught(self, Undefined, call, ("depth", 0)).what, "watched")
        self.assertRaises(TypeError, iter, desk)
        self.assertRaises(TypeError, list, desk)

    def test_edits(self):
        desk = Desk(LOOP)
        self.assertIsNone(desk.put(place=1, line=("do", "b")))
        self.assertEqual(desk.code, LOOP.put(1, ("do", "b")))
        self.assertIsNone(desk.take(place=1))
        self.assertEqual(desk.code, LOOP)
        self.assertIsNone(desk.turn(place=1, line=BACK))
        self.assertEqual(desk.code, LOOP.turn(1, BACK))
        self.assertEqual((desk.many, desk.report()), (3, ()))
        self.assertIsNone(desk.undo())
        self.assertIsNone(desk.undo())
        self.assertEqual((desk.code, desk.many), (LOOP.put(1, ("do", "b")), 1))
        self.assertIsNone(desk.redo())
        self.assertEqual((desk.code, desk.many), (LOOP, 2))
        self.assertIsNone(desk.redo())
        self.assertEqual((desk.code, desk.many), (LOOP.turn(1, BACK), 3))
        caught(self, NothingToUndo, desk.redo)

    def test_errors_change_nothing(self):
        deeds = [("watch", ("depth", 0)), ("put", 1, DO), ("watch", ("joint", (1,), 2)), ("take", 1), ("undo",)]
        desk = led(LOOP, *deeds)
        ahead = state_of(desk)
        for kind, name, *arguments in [
                (InvalidNumber, "put", 6, DO), (InvalidNumber, "put", True, DO), (InvalidNumber, "put", None, None),
                (InvalidLine, "put", 0, ("do", "A")), (InvalidLine, "put", 5, DO), (Endless, "put", 0, ("go", 0)),
                (InvalidNumber, "take", 5), (InvalidNumber, "take", -1), (InvalidLine, "take", 4),
                (InvalidNumber, "turn", 5, DO), (InvalidLine, "turn", 0, None), (Endless, "turn", 4, ("go", 3)),
                (InvalidEntries, "shorten", ()), (InvalidEntries, "shorten", (9,)), (InvalidEntries, "shorten", [0]),
                (InvalidEntries, "shorten", None), (InvalidQuestion, "watch", ("depth", 9)),
                (InvalidQuestion, "watch", None), (InvalidQuestion, "watch", ["depth", 0]),
                (InvalidQuestion, "watch", ("depth", False)),
                (InvalidQuestion, "watch", ("cells",)), (Undefined, "leave", ("depth", 1)), (Undefined, "leave", None),
                (Undefined, "leave", ["depth", 0]), (Undefined, "leave", ("depth", False)),
                (Undefined, "claim", ("depth", False)), (Undefined, "paper", ("depth", False)),
                (Undefined, "claim", ("joint", (True,), 2)), (Undefined, "paper", SMALL), (Undefined, "claim", desk)]:
            caught(self, kind, getattr(desk, name), *arguments)
            self.assertEqual(state_of(desk), ahead)
        desk.redo()
        self.assertEqual(desk.code, LOOP)
        full = led(Code([DO] * 31 + [BACK]), ("watch", ("events", 0)))
        self.assertEqual(caught(self, TooLarge, full.put, 0, DO).many, 33)
        long = Desk(Code([("call", 2), BACK] + [DO] * 20 + [BACK]))
        self.assertEqual(caught(self, TooLong, long.turn, 1, ("go", 2)).place, 0)

    def test_any_value(self):
        desk = led(LOOP, ("watch", ("depth", 0)))
        ahead = state_of(desk)
        for value in [*ANY_VALUES, desk, LOOP]:
            self.assertIs(caught(self, InvalidQuestion, desk.watch, value).value, value)
            for call in (desk.leave, desk.claim, desk.paper):
                self.assertEqual(caught(self, Undefined, call, value).what, "watched")
            if not (type(value) is int and 0 <= value <= 4):
                self.assertIs(caught(self, InvalidNumber, desk.put, value, value).value, value)
                self.assertIs(caught(self, InvalidNumber, desk.turn, value, value).value, value)
                self.assertIs(caught(self, InvalidNumber, desk.take, value).value, value)
            if value not in ((0,), ("back",)) or type(value) is list:
                self.assertIs(caught(self, InvalidEntries, desk.shorten, value).value, value)
        self.assertEqual(state_of(desk), ahead)

    def test_a_new_deed_ends_what_can_be_redone(self):
        for deed in [("put", 1, DO), ("take", 1), ("turn", 1, BACK), ("shorten",), ("watch", ("depth", 0)),
                     ("leave", ("events", 0)), ("watch", ("events", 0))]:
            desk = led(LOOP, ("watch", ("events", 0)), ("turn", 1, ("do", "b")), ("undo",), deed)
            caught(self, NothingToUndo, desk.redo)
            self.assertEqual(desk.many, 2)
        # a deed that raises does not
        desk = led(LOOP, ("turn", 1, ("do", "b")), ("undo",))
        caught(self, InvalidNumber, desk.take, 9)
        desk.redo()
        self.assertEqual(desk.code, LOOP.turn(1, ("do", "b")))


class ShortenTest(unittest.TestCase):
    def test_with_and_without_entries(self):
        for code in (CUT_CODE, PUT_CODE, LOOP, SMALL):
            for arguments in ((), ((0,),), ((0, 0),), ((len(code) - 1, 0),)):
                desk = Desk(code)
                _, lines, entries = shortened(code, *arguments)[-1]
                self.assertEqual(desk.shorten(*arguments), entries)
                self.assertEqual((desk.code.lines, desk.many), (lines, 1))
                desk.undo()
                self.assertEqual(desk.code, code)
                desk.redo()
                self.assertEqual(desk.code.lines, lines)
        self.assertEqual(Desk(CUT_CODE).shorten(entries=(4,)), shortened(CUT_CODE, (4,))[-1][2])
        desk = led(PUT_CODE, ("watch", ("form", (0,))), ("shorten",))
        self.assertNotEqual(desk.code, PUT_CODE)
        self.assertEqual(desk.report(), ("renewed",))


class WatchTest(unittest.TestCase):
    def test_reports_by_hand(self):
        events, depth, same = ("events", 0), ("depth", 3), ("same", (0,), (2,))
        desk = Desk(LOOP)
        self.assertIsNone(desk.watch(question=events))
        self.assertEqual((desk.report(), desk.claim(question=events)), (("new",), ("events", 0, 2)))
        self.assertEqual(desk.paper(question=events), paper_of(LOOP, events))
        desk.watch(depth)
        self.assertEqual((desk.watched, desk.report()), ((events, depth), ("kept", "new")))
        desk.watch(same)
        self.assertEqual((desk.claim(same), desk.report()), (("same", (0,), (2,)), ("kept", "kept", "new")))
        # watched twice: it keeps its place, and it is a deed
        desk.watch(events)
        self.assertEqual((desk.watched, desk.report(), desk.many), ((events, depth, same), ("kept",) * 3, 4))
        # a is done no more: one event less, the same claims for the others
        desk.turn(1, ("go", 2))
        self.assertEqual(desk.report(), ("changed", "kept", "renewed"))
        self.assertEqual(desk.claim(events), ("events", 0, 1))
        self.assertEqual(desk.paper(same), paper_of(desk.code, same))
        # three lines: place 3 is none any more, and place 2 is the back line
        desk.take(1)
        self.assertEqual(desk.report(), ("kept", "none", "changed"))
        self.assertEqual((desk.claim(depth), desk.paper(depth)), (None, None))
        self.assertEqual(desk.claim(same), ("unlike", (0,), (2,)))
        desk.watch(events)
        self.assertEqual(desk.report(), ("kept", "none", "kept"))
        self.assertIs(caught(self, InvalidQuestion, desk.watch, depth).value, depth)
        # it comes to be a question again
        desk.put(0, DO)
        self.assertEqual(desk.report()[1], "changed")
        self.assertEqual(desk.claim(depth), ("depth", 3, 0))
        self.assertIsNone(desk.leave(question=depth))
        self.assertEqual(desk.watched, (events, same))
        self.assertEqual(len(desk.report()), 2)
        desk.undo()
        self.assertEqual((desk.watched, desk.report()[1]), ((events, depth, same), "new"))
        self.assertEqual(desk.claim(depth), ("depth", 3, 0))

    def test_questions_that_come_back_by_undo_and_redo(self):
        question, other = ("depth", 3), ("events", 0)
        desk = led(LOOP, ("watch", question), ("watch", other), ("take", 1))
        self.assertEqual(desk.report(), ("none", "changed"))
        desk.undo()
        self.assertEqual((desk.report(), desk.claim(question)), (("changed", "changed"), ("depth", 3, 0)))
        desk.redo()
        self.assertEqual((desk.report(), desk.claim(question)), (("none", "changed"), None))
        # undo of both watches, then redo while it is a question
        desk.undo()
        desk.undo()
        self.assertEqual((desk.watched, desk.report()), ((question,), ("kept",)))
        desk.undo()
        self.assertEqual((desk.watched, desk.report()), ((), ()))
        caught(self, Undefined, desk.claim, question)
        desk.redo()
        self.assertEqual((desk.watched, desk.report()), ((question,), ("new",)))
        # a question that comes to be watched again while it is none
        desk = led(LOOP, ("watch", question), ("take", 1), ("leave", question), ("undo",))
        self.assertEqual((desk.watched, desk.report()), ((question,), ("new",)))
        self.assertEqual((desk.claim(question), desk.paper(question)), (None, None))
        desk.undo()
        self.assertEqual((desk.report(), desk.claim(question)), (("changed",), ("depth", 3, 0)))

    def test_a_question_that_was_left_goes_behind_the_others(self):
        one, two = ("depth", 0), ("depth", 1)
        desk = led(LOOP, ("watch", one), ("watch", two), ("leave", one), ("watch", one))
        self.assertEqual((desk.watched, desk.report()), ((two, one), ("kept", "new")))
        desk.undo()
        desk.undo()
        self.assertEqual((desk.watched, desk.report()), ((one, two), ("new", "kept")))

    def test_kept_papers_are_not_always_those_told_anew(self):
        question = ("depth", 0)
        desk = led(Code([("call", 2), BACK, DO, BACK]), ("watch", question), ("put", 4, BACK))
        self.assertEqual(desk.report(), ("renewed",))
        # another way is shorter now, but the old one is still there
        code = Code([DO, DO, DO, BACK])
        question = ("reached", (0,), 3)
        desk = led(code, ("watch", question), ("turn", 0, ("ask", "t", (3,))))
        self.assertEqual((desk.paper(question), desk.report()), ((0, 1, 2, 3), ("kept",)))
        self.assertEqual(paper_of(desk.code, question), (0, 3))

    def test_eight_questions(self):
        questions = [("depth", place) for place in range(4)] + [("events", place) for place in range(4)]
        desk = led(LOOP, *[("watch", question) for question in questions])
        self.assertEqual((desk.watched, desk.many), (tuple(questions), 8))
        self.assertEqual(desk.report(), ("kept",) * 7 + ("new",))
        for question in questions:
            self.assertEqual(desk.claim(question), answer_of(LOOP, question))
            self.assertEqual(desk.paper(question), paper_of(LOOP, question))


class SameStateTest(unittest.TestCase):
    def test_desks_led_alike(self):
        source = seeded(292)
        for turn in range(20):
            code = random_code(source, source.randrange(2, 20))
            plain, one, other = PlainDesk(code), Desk(code), Desk(Code(list(code.lines)))
            for _ in range(12):
                name, *arguments = random_deed(source, plain)
                try:
                    plain.deed(name, *arguments)
                except TrimError:
                    continue
                getattr(one, name)(*arguments)
                self.assertIs(same_state(one, other), False)
                getattr(other, name)(*arguments)
                self.assertIs(same_state(one=one, other=other), True)
                self.assertIs(same_state(other, one), True)
                self.assertIs(same_state(one, one), True)

    def test_desks_that_differ_in_one_thing(self):
        one, two = ("depth", 0), ("events", 1)
        desk = led(LOOP, ("watch", one), ("watch", two), ("turn", 1, ("do", "b")), ("undo",))
        self.assertIs(same_state(desk, led(LOOP, ("watch", one), ("watch", two), ("put", 4, BACK), ("undo",))), True)
        one_code, other_code = led(LOOP, ("turn", 1, ("do", "b"))), led(LOOP, ("turn", 1, ("do", "c")))
        self.assertIs(same_state(one_code, other_code), False)
        # both questions are none now, so nothing is kept of them
        one_question = led(LOOP, ("watch", ("depth", 3)), ("take", 1))
        other_question = led(LOOP, ("watch", ("events", 3)), ("take", 1))
        self.assertEqual(one_question.report(), other_question.report())
        self.assertIs(same_state(one_question, other_question), False)
        for deeds in [
                # another code; another order; a question less; one deed more; one less that can be redone
                (("watch", one), ("watch", two), ("turn", 1, ("do", "c"))),
                (("watch", two), ("watch", one), ("turn", 1, ("do", "b")), ("undo",)),
                (("watch", one), ("watch", one), ("turn", 1, ("do", "b")), ("undo",)),
                (("watch", one), ("watch", two), ("watch", two), ("turn", 1, ("do", "b")), ("undo",)),
                (("watch", one), ("watch", two)),
                (("watch", one), ("watch", two), ("turn", 1, ("do", "b")), ("turn", 0, BACK), ("undo",), ("undo",))]:
            other = led(LOOP, *deeds)
            self.assertIs(same_state(desk, other), False)
            self.assertIs(same_state(other, desk), False)

    def test_papers_that_were_kept(self):
        # both desks have one code, but one of them keeps a longer way
        question = ("reached", (0,), 3)
        short, long = Code([("ask", "t", (3,)), DO, DO, BACK]), Code([DO, DO, DO, BACK])
        one = led(long, ("watch", question), ("turn", 0, ("ask", "t", (3,))))
        other = led(long, ("turn", 0, ("ask", "t", (3,))), ("watch", question))
        self.assertEqual((one.code, one.watched, one.many), (other.code, other.watched, other.many))
        self.assertEqual(one.code, short)
        self.assertNotEqual(one.paper(question), other.paper(question))
        self.assertIs(same_state(one, other), False)
        # questions that are none now
        one = led(LOOP, ("watch", ("depth", 3)), ("take", 1))
        other = led(LOOP, ("watch", ("depth", 3)), ("take", 1))
        self.assertIs(same_state(one, other), True)

    def test_reports_do_not_count(self):
        one = led(LOOP, ("watch", ("depth", 0)), ("watch", ("depth", 0)), ("undo",))
        other = led(LOOP, ("watch", ("depth", 0)), ("watch", ("depth", 0)), ("undo",), ("undo",), ("redo",))
        self.assertEqual((one.report(), other.report()), (("kept",), ("new",)))
        self.assertIs(same_state(one, other), True)

    def test_two_desks_side_by_side(self):
        one, other = Desk(LOOP), Desk(LOOP)
        one.watch(("depth", 0))
        self.assertEqual((other.watched, other.many, other.report()), ((), 0, ()))
        other.turn(1, ("do", "b"))
        self.assertEqual(one.code, LOOP)
        one.undo()
        self.assertEqual((other.many, one.many), (1, 0))
        caught(self, NothingToUndo, one.undo)
        self.assertEqual(LOOP.lines[1], DO)


if __name__ == "__main__":
    unittest.main()
