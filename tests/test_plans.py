import unittest

from calltrim.errors import Endless, InvalidLine, InvalidMoves, InvalidNumber, InvalidPlan, TooLong, TrimError, Unset
from calltrim.planlines import is_plan_line
from calltrim.plans import Plan, plan_run
from mutants import ANY_VALUES
from plan_reference import line_of, plan_told, reads_of, writes_of
from plan_support import BACK, RECURSIVE, SAMPLES, any_plan, do, plans_near_the_bounds, random_procedures
from support import SMALL, caught, is_plain, random_moves, seeded

GOOD = (0, (do("a"), BACK))


def least_sums(procedures, silent):
    """The norm (silent 0) or length (silent 1) of each line, None where there is none."""
    found = {}

    def cost(f, p):
        line = procedures[f][1][p]
        if line[0] == "back":
            return silent
        if line[0] in ("do", "ask"):
            leads = [(f, p + 1)] + [(f, q) for q in (line[3] if line[0] == "ask" else ())]
            known = [found[lead] for lead in leads if lead in found]
            return 1 + min(known) if known else None
        parts = [(f, line[1])] if line[0] == "go" else [(line[1], 0), (f, p + 1)]
        return silent + sum(found[part] for part in parts) if all(part in found for part in parts) else None

    better = True
    while better:
        better = False
        for f, (_, lines) in enumerate(procedures):
            for p in range(len(lines)):
                now = cost(f, p)
                if now is not None and now < found.get((f, p), now + 1):
                    found[f, p] = now
                    better = True
    return found


def too_early(commons, procedures):
    """The first line with the least slot that it may read too early, by going all ways with the slots set so far."""
    for f, (slots, lines) in enumerate(procedures):
        plan = PlainPlan(commons, procedures)
        seen, fresh = set(), [(0, frozenset())]
        while fresh:
            p, written = fresh.pop()
            if (p, written) in seen:
                continue
            seen.add((p, written))
            line = lines[p]
            behind = written | set(writes_of(plan, (f, p)))
            if line[0] == "go":
                fresh.append((line[1], behind))
            elif line[0] != "back":
                fresh += [(q, behind) for q in (p + 1, *(line[3] if line[0] == "ask" else ()))]
        wrong = [(p, s) for p, written in seen for s in reads_of(plan, (f, p)) if s not in written]
        if wrong:
            p, s = min(wrong)
            return (f, p), s
    return None


class PlainPlan:
    def __init__(self, commons, procedures):
        self.commons, self.procedures = commons, procedures


class PlanTest(unittest.TestCase):
    def test_attributes(self):
        lines = [GOOD, (2, (("call", 0), do("b", (), (3,)), ("ask", "t", (3, 1), (0, 3)), BACK))]
        plan = Plan(2, lines)
        lines.append(GOOD)
        self.assertEqual(plan.commons, 2)
        self.assertEqual(len(plan.procedures), 2)
        self.assertTrue(is_plain(plan.procedures))
        self.assertEqual(Plan(commons=2, procedures=tuple(lines[:2])).procedures, plan.procedures)
        self.assertRaises(TypeError, iter, plan)
        self.assertRaises(TypeError, list, plan)

    def test_equality(self):
        plan = Plan(1, [GOOD, GOOD])
        self.assertIs(plan == Plan(1, (GOOD, GOOD)), True)
        self.assertIs(plan == Plan(2, (GOOD, GOOD)), False)
        self.assertIs(plan == Plan(1, (GOOD,)), False)
        self.assertIs(plan == Plan(1, (GOOD, (1, GOOD[1]))), False)
        self.assertIs(plan != Plan(1, (GOOD, (0, (do("b"), BACK)))), True)
        for value in [*ANY_VALUES, (1, (GOOD, GOOD)), plan.procedures]:
            self.assertIs(plan == value, False)
            self.assertIs(plan != value, True)

    def test_the_greatest_plans(self):
        Plan(4, [(4, (BACK,) * 12), (4, (BACK,) * 12), (0, (BACK,) * 6), (0, (BACK,)), (0, (BACK,))])
        Plan(4, [(4, (do("zzzz", (3, 0, 3), (7,)), BACK))])
        Plan(0, [(0, (("ask", "t", (), (1, 0, 1, 0)), BACK))])
        Plan(0, [(0, (do("popa"), do("psh"), do("p"), BACK))])

    def test_commons_that_are_no_number_up_to_4(self):
        for value in [*ANY_VALUES, 5, -1, True, False, None, "1", (1,), [1]]:
            if type(value) is int and 0 <= value <= 4:
                continue
            self.assertIs(caught(self, InvalidNumber, Plan, value, [GOOD]).value, value)
            self.assertIs(caught(self, InvalidNumber, Plan, value, None).value, value)

    def test_procedures_that_are_none(self):
        for value in [*ANY_VALUES, (), [], (GOOD,) * 6, GOOD, [list(GOOD)], [(0, list(GOOD[1]))], [(0,)],
                      [(0, GOOD[1], 0)], [(5, GOOD[1])], [(-1, GOOD[1])], [(True, GOOD[1])], [("0", GOOD[1])],
                      [(None, GOOD[1])],
                      [(0, ())], [(0, (BACK,) * 13)], [(0, "back")], [(0, None)], [GOOD, 0],
                      [GOOD, None], [GOOD, SMALL], [(4, (BACK,)), (4, (BACK,)), (1, (BACK,))], [(3, (BACK,))] * 3,
                      [(0, (BACK,) * 12), (0, (BACK,) * 12), (0, (BACK,) * 9)], [(0, (BACK,) * 7)] * 5, "ab"]:
            self.assertIs(caught(self, InvalidPlan, Plan, 0, value).value, value)
        for wrong in ([("go",)] * 13, [(0, (("go",),) * 13)], [(4, (("go",),))] * 3):
            self.assertIs(caught(self, InvalidPlan, Plan, 0, wrong).value, wrong)

    def test_lines_that_are_none(self):
        for line in [None, 0, "back", (), [], ["back"], ("back", 0), ("back", ()), ("stop",), (0,), (None,), ((),),
                     ("go",), ("go", 3), ("go", -1), ("go", True), ("go", "0"), ("go", 0, 0), ("go", [0]),
                     ("go", None),
                     ("call",), ("call", 2), ("call", -1), ("call", True), ("call", 0, 0), ("call", "0"),
                     ("call", (0,)),
                     ("do", "a"), ("do", "a", ()), ("do", "a", (), (), ()), ("do", "", (), ()), ("do", "abcde", (), ()),
                     ("do", "A", (), ()), ("do", "a1", (), ()), ("do", "push", (), ()), ("do", "pop", (), ()),
                     ("do", "pop", (0,), (0,)), ("do", None, (), ()), ("do", ("a",), (), ()), ("do", "a.1", (), ()),
                     ("do", "a", [], ()), ("do", "a", (), []), ("do", "a", (0, 0, 0, 0), ()), ("do", "a", (), (0, 1)),
                     ("do", "a", (3,), ()), ("do", "a", (), (3,)), ("do", "a", (True,), ()), ("do", "a", (), (True,)),
                     ("do", "a", (-1,), ()), ("do", "a", (None,), ()), ("do", "a", 0, ()), ("do", "a", (), 0),
                     ("do", "a", None, ()), ("do", "a", (), None), ("do", "a", ((0,),), ()), ("do", "a", ("0",), ()),
                     ("ask", "a", ()), ("ask", "a", (), ()), ("ask", "a", (), (0, 0, 0, 0, 0)), ("ask", "a", (), [0]),
                     ("ask", "a", (), (3,)), ("ask", "a", (), (True,)), ("ask", "a", (), (-1,)), ("ask", "a", (), 0),
                     ("ask", "a", [0], (0,)), ("ask", "a", (3,), (0,)), ("ask", "a", (0,) * 4, (0,)),
                     ("ask", "push", (), (0,)), ("ask", "pop", (), (0,)), ("ask", "", (), (0,)),
                     ("ask", "a", (), (0,), ()), ("ask", "a", (0,)), SMALL, ("go", SMALL)]:
            procedures = [(0, (do("a", (0,), (1,)), BACK)), (1, (do("b", (), (2,)), line, BACK))]
            error = caught(self, InvalidLine, Plan, 2, procedures)
            self.assertIs(error.line, line)

    def test_plan_lines(self):
        for line in (do("a", (2, 1, 0), (2,)), ("ask", "t", (), (0, 4)), ("go", 4), ("call", 1), BACK):
            self.assertIs(is_plan_line(line, 3, 5, 2), True)
        for line in [*ANY_VALUES, ["back"], "back", ("back", 0), ("stop",), ("backs",), ("do",), (BACK,), ("go", 5),
                     ("call", 2), do("a", (3,)), ("ask", "t", (), (5,))]:
            self.assertIs(is_plan_line(line, 3, 5, 2), line == BACK and type(line) is tuple)

    def test_the_first_wrong_line(self):
        one, two = ("go", 9), ("call", 9)
        self.assertIs(caught(self, InvalidLine, Plan, 0, [(0, (one, BACK)), (0, (two, BACK))]).line, one)
        self.assertIs(caught(self, InvalidLine, Plan, 0, [(0, (BACK, two)), (0, (one, BACK))]).line, two)
        self.assertIs(caught(self, InvalidLine, Plan, 0, [GOOD, (0, (BACK, one, two))]).line, one)
        for last in (do("a"), ("ask", "t", (), (0,)), ("call", 0)):
            self.assertIs(caught(self, InvalidLine, Plan, 0, [(0, (BACK, last)), (0, (one,))]).line, last)
            self.assertIs(caught(self, InvalidLine, Plan, 0, [(0, (last,))]).line, last)
        # variables and places are those of the procedure itself
        three = do("a", (2,), ())
        plan = [(2, (do("a", (), (2,)), BACK)), (0, (three, BACK)), (0, (BACK, ("go", 0)))]
        self.assertIs(caught(self, InvalidLine, Plan, 1, plan).line, three)
        four = ("go", 2)
        self.assertIs(caught(self, InvalidLine, Plan, 1, [(0, (BACK, BACK, four)), (0, (BACK, four))]).line, four)
        self.assertIs(caught(self, InvalidLine, Plan, 0, [(0, (("go", 0),)), (0, (one,))]).line, one)

    def test_endless_lines(self):
        for place, procedures in [
                ((0, 0), [(0, (("go", 0),))]), ((0, 1), [(0, (BACK, do("a"), ("go", 1)))]),
                ((1, 0), [GOOD, (0, (("call", 1), BACK))]),
                ((0, 1), [(0, (BACK, ("call", 1), BACK)), (0, (("go", 0),))]),
                ((1, 1), [GOOD, (0, (BACK, ("ask", "t", (), (1,)), ("go", 1)))]),
                ((0, 0), [(0, (("call", 1), BACK)), (0, (("call", 0), BACK))]),
                ((2, 0), [GOOD, GOOD, (0, (("call", 0), ("go", 0))), (0, (("go", 0),))])]:
            self.assertEqual(caught(self, Endless, Plan, 0, procedures).place, place)
        self.assertTrue(is_plain(caught(self, Endless, Plan, 0, [(0, (("go", 0),))]).place))
        # recursion behind a test comes to an end
        Plan(0, [(0, (("ask", "t", (), (2,)), ("call", 0), BACK))])

    def test_too_long_lines(self):
        eight = (0, (("call", 1),) * 8 + (BACK,))
        four = (0, (do("a"),) * 4 + (BACK,))
        Plan(0, [eight, four])
        nine = (0, (do("a"),) + eight[1])
        self.assertEqual(caught(self, TooLong, Plan, 0, [nine, four]).place, (0, 0))
        later = [four, (0, (BACK, do("a")) + (("call", 0),) * 8 + (BACK,))]
        self.assertEqual(caught(self, TooLong, Plan, 0, later).place, (1, 1))
        later = [GOOD, (0, (do("a"),) + (("call", 2),) * 8 + (BACK,)), four]
        self.assertEqual(caught(self, TooLong, Plan, 0, later).place, (1, 0))
        # of lengths of 200 and 201, by silent calls within one another
        inner, empty = (0, (("call", 2),) * 10 + (BACK,)), (0, (BACK,))
        Plan(0, [(0, (("call", 1),) * 9 + (do("a"), BACK)), inner, empty])
        long = [(0, (("call", 1),) * 9 + (do("a"), do("a"), BACK)), inner, empty]
        self.assertEqual(caught(self, TooLong, Plan, 0, long).place, (0, 0))

    def test_endless_comes_ahead_of_too_long_and_that_ahead_of_unset(self):
        long = (1, (do("a", (0,)),) + (("call", 1),) * 8 + (BACK,))
        four = (0, (do("a"),) * 4 + (BACK,))
        self.assertEqual(caught(self, Endless, Plan, 0, [long, four, (0, (BACK, ("go", 1)))]).place, (2, 1))
        self.assertEqual(caught(self, TooLong, Plan, 0, [long, four]).place, (0, 0))
        caught(self, InvalidLine, Plan, 0, [long, four, (0, (("go", 0), ("go", 9)))])

    def test_unset_slots(self):
        for place, slot, commons, procedures in [
                ((0, 0), 0, 0, [(1, (do("a", (0,)), BACK))]),
                ((0, 0), 1, 1, [(2, (do("a", (2, 0)), do("b", (1,)), BACK))]),
                ((0, 0), 0, 0, [(3, (do("a", (2, 1, 0)), BACK))]),
                # its own write does not count
                ((0, 0), 0, 0, [(1, (do("a", (0,), (0,)), BACK))]),
                # a way past the write
                ((0, 2), 0, 0, [(1, (("ask", "t", (), (2,)), do("a", (), (0,)), do("b", (0,)), BACK))]),
                # ways through a call line; the called procedure has slots of its own
                ((0, 1), 0, 0, [(1, (("call", 1), do("b", (0,)), BACK)), (1, (do("a", (), (0,)), BACK))]),
                ((1, 1), 0, 1, [(1, (do("a", (), (1,)), ("call", 1), BACK)), (1, (("ask", "t", (), (2,)),
                                                                               do("b", (1,)), BACK))]),
                ((0, 1), 2, 0, [(3, (do("a", (), (1,)), ("ask", "t", (1, 2), (0,)), do("a", (0,)), BACK)),
                                (1, (do("c", (0,)), BACK))]),
                # a way behind the last line
                ((0, 1), 0, 0, [(1, (("go", 3), do("a", (0,)), BACK, ("go", 1)))])]:
            error = caught(self, Unset, Plan, commons, procedures)
            self.assertEqual((error.place, error.slot), (place, slot))
            self.assertTrue(is_plain(error.place) and type(error.slot) is int)
        # lines that are not come to, loops behind a write, common variables
        Plan(1, [(1, (BACK, do("a", (1,)), BACK))])
        Plan(1, [(1, (do("a", (0,), (1,)), ("ask", "t", (1,), (4,)), do("b", (1,), (1,)), ("go", 1), BACK))])
        Plan(0, [(1, (do("a", (), (0,)), ("call", 1), do("b", (0,)), BACK)), (0, (BACK,))])

    def test_random_procedures_as_written(self):
        source = seeded(200)
        seen = {}
        for turn in range(4000):
            commons, procedures = random_procedures(source, 5 if turn % 2 else 2, 8, source.choice([8, 16, 32]))
            norms, lengths = least_sums(procedures, 0), least_sums(procedures, 1)
            places = [(f, p) for f, (_, lines) in enumerate(procedures) for p in range(len(lines))]
            endless = [place for place in places if place not in norms]
            long = [place for place in places if place in norms and (norms[place] > 32 or lengths[place] > 200)]
            if endless:
                self.assertEqual(caught(self, Endless, Plan, commons, procedures).place, endless[0])
            elif long:
                self.assertEqual(caught(self, TooLong, Plan, commons, procedures).place, long[0])
            elif too_early(commons, procedures):
                error = caught(self, Unset, Plan, commons, procedures)
                self.assertEqual((error.place, error.slot), too_early(commons, procedures))
            else:
                self.assertEqual(Plan(commons, list(procedures)).procedures, procedures)
            told = "endless" if endless else "long" if long else "unset" if too_early(commons, procedures) else "plan"
            seen[told] = seen.get(told, 0) + 1
        self.assertGreater(min(seen[told] for told in ("endless", "unset", "plan")), 100)
        self.assertIn("long", seen)


class PlanRunTest(unittest.TestCase):
    def test_values_by_hand(self):
        plan = Plan(2, [(1, (do("a", (0, 1), (2,)), do("b", (2, 2), (1,)), ("ask", "t", (1, 2, 0), (4,)), ("go", 0),
                             do("c", (2, 1), (2,)), BACK))])
        self.assertEqual(plan_run(plan, ()), (("a", 1, (0, 0)),))
        self.assertEqual(plan_run(plan, (9, 7, 3)), (("a", 1, (0, 0), 0), ("b", 1, (1, 1), 0), ("t", 2, (2, 1, 0), 1),
                                                     ("c", 1, (1, 2))))
        self.assertEqual(plan_run(plan, (0, 0, 0, 0, 0, 1, 1, 5, 5)), (
            ("a", 1, (0, 0), 0), ("b", 1, (1, 1), 0), ("t", 2, (2, 1, 0), 0), ("a", 1, (0, 2), 0), ("b", 1, (4, 4), 0),
            ("t", 2, (5, 4, 0), 1), ("c", 1, (4, 5), 0), ()))
        self.assertEqual(plan_run(plan=plan, moves=()), (("a", 1, (0, 0)),))

    def test_each_activation_has_slots_of_its_own(self):
        plan = RECURSIVE
        self.assertEqual(plan_run(plan, (0, 0, 0, 0, 1, 0, 0)), (
            ("a", 1, (), 0), ("b", 1, (), 0), ("t", 2, (0,), 0), ("d", 1, (), 0), ("t", 2, (0,), 1),
            ("e", 1, (4,), 0), ("c", 1, (1, 2, 6), 0), ()))
        self.assertEqual(plan_run(plan, (0, 0, 0, 0, 0, 0, 1, 0, 0, 0))[7:], (
            ("e", 1, (6,), 0), ("e", 1, (4,), 0), ("c", 1, (1, 2, 9), 0), ()))

    def test_plans_that_meet_no_event(self):
        for plan in (Plan(3, [(0, (BACK,))]), Plan(0, [(0, (("call", 1), ("go", 2), BACK)), (2, (("go", 1), BACK))])):
            for moves in ((), (0,), (5, 5)):
                self.assertEqual(plan_run(plan, moves), ((),))

    def test_runs_as_written(self):
        source = seeded(201)
        for turn in range(400):
            plan = any_plan(source, turn)
            for most in (0, 6, 40):
                moves = random_moves(source, most)
                told = plan_run(plan, moves)
                self.assertEqual(told, plan_told(plan, moves))
                self.assertTrue(is_plain(told))
                for many in (0, 1, len(moves) // 2):
                    ahead = plan_run(plan, moves[:many])
                    self.assertEqual(ahead[:-1], told[:len(ahead) - 1])
                if told[-1] == ():
                    self.assertEqual(plan_run(plan, moves + (1, 2)), told)

    def test_up_to_400_moves(self):
        source = seeded(202)
        for plan in [*SAMPLES, *plans_near_the_bounds(source)]:
            for many in (1, 399, 400):
                moves = tuple(source.randrange(10) for _ in range(many))
                self.assertEqual(plan_run(plan, moves), plan_told(plan, moves))
                self.assertEqual(plan_run(plan, (0,) * many), plan_told(plan, (0,) * many))

    def test_moves_that_are_none(self):
        for value in [[], [0], (True,), (-1,), None, 0, "0", ("0",), ((),), (0, [1]), (None,), SMALL, (SMALL,)]:
            self.assertIs(caught(self, InvalidMoves, plan_run, RECURSIVE, value).value, value)
        for value in ANY_VALUES:
            if not (type(value) is tuple and all(type(move) is int for move in value)):
                self.assertIs(caught(self, InvalidMoves, plan_run, RECURSIVE, value).value, value)

    def test_plans_stay_as_they_are(self):
        source = seeded(203)
        one, other = any_plan(source, 0), any_plan(source, 1)
        ahead = (one.procedures, other.procedures)
        told = [plan_run(plan, (1, 2, 3)) for plan in (one, other)]
        for _ in range(5):
            self.assertEqual([plan_run(plan, (1, 2, 3)) for plan in (one, other)], told)
            self.assertRaises(TrimError, plan_run, one, None)
        self.assertEqual((one.procedures, other.procedures), ahead)
        self.assertEqual(line_of(one, (0, 0)), one.procedures[0][1][0])


if __name__ == "__main__":
    unittest.main()
