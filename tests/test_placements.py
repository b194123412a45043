import unittest

from calltrim.codes import Code
from calltrim.errors import Endless, InvalidMoves, InvalidPlacement, InvalidSaves, TooLarge, TooLong
from calltrim.placements import cell_run, cells_run, is_placement, is_saves, placed
from calltrim.plans import Plan, plan_run
from calltrim.rightness import is_right
from calltrim.words import word_parts
from mutants import ANY_VALUES, changed, with_odd_parts
from plan_reference import all_places, all_saves, cells_told, placed_lines
from plan_support import (
    ALL_WITH_ALL, BACK, EMPTY, NO_SLOTS, PATH, RECURSIVE, SAMPLES, any_plan, do, plans_near_the_bounds,
    random_placement, random_saves)
from support import SMALL, caught, is_plain, random_code, random_moves, seeded

WORDS = ("a.1>2", "push.1", "push.2", "pop>1", "pop>3", "push.1.2", "push", "pop", "push.1>2", "pop.1>2", "pop.1",
         "t.2.3", "push>1", "add.1.2.3>3")


def told_on_cells(code, moves):
    """The run of a code on 16 cells with a stack of values."""
    place, calls, values, cells, told, number = 0, [], [], [0] * 16, [], 0
    moves = list(moves)
    while True:
        line = code[place]
        if line[0] == "go":
            place = line[1]
        elif line[0] == "call":
            calls.append(place + 1)
            place = line[1]
        elif line[0] == "back":
            if not calls:
                return (*told, ())
            place = calls.pop()
        else:
            name, reads, writes = word_parts(line[1])
            if line[0] == "do" and (name, len(reads), len(writes)) == ("push", 1, 0):
                values.append(cells[reads[0]])
                place += 1
            elif line[0] == "do" and (name, len(reads), len(writes)) == ("pop", 0, 1):
                cells[writes[0]] = values.pop() if values else 0
                place += 1
            else:
                leads = code.leads(place)
                ahead = (name, len(leads), tuple(cells[cell] for cell in reads))
                if not moves:
                    return (*told, ahead)
                answer = moves.pop(0) % len(leads)
                told.append((*ahead, answer))
                number += 1
                for cell in writes:
                    cells[cell] = number
                place = leads[answer]


class PlacementTest(unittest.TestCase):
    def test_what_is_one(self):
        self.assertIs(is_placement(RECURSIVE, ((1, 15), (1,))), True)
        self.assertIs(is_placement(plan=RECURSIVE, value=((1, 2), (3,))), True)
        self.assertIs(is_placement(NO_SLOTS, ((), ())), True)
        self.assertIs(is_placement(EMPTY, ((),)), True)
        self.assertIs(is_placement(ALL_WITH_ALL, ((4,) * 4, (15,) * 4)), True)
        for value in [((0, 1), (1,)), ((1, 16), (1,)), ((1, 1), (True,)), ((1, 2),), ((1, 2), (3,), ()), ((1,), (2,)),
                      ((1, 2, 3), (3,)), ((1, 2), ()), [(1, 2), (3,)], ((1, 2), [3]), ([1, 2], (3,)), (1, 2, 3),
                      ((1, 2), 3), ((1, 2), (-1,)), ((1, 2), ("3",)), ((1, 2), (None,)), ((1, 2), ((3,),)), ((), ())]:
            self.assertIs(is_placement(RECURSIVE, value), False)
        self.assertIs(is_placement(ALL_WITH_ALL, ((4, 4, 4, 3), (4,) * 4)), False)

    def test_any_value(self):
        for value in ANY_VALUES:
            self.assertIs(is_placement(RECURSIVE, value), False)
            self.assertIs(is_placement(NO_SLOTS, value), value == ((), ()))
            self.assertIs(is_placement(EMPTY, value), value == ((),))

    def test_odd_parts_and_changes(self):
        source = seeded(210)
        for turn in range(60):
            plan = any_plan(source, turn)
            placement = random_placement(source, plan)
            self.assertIs(is_placement(plan, placement), True)
            for value in with_odd_parts(placement):
                self.assertIs(is_placement(plan, value), False)
            for _ in range(10):
                value = changed(source, placement)
                right = is_plain(value) and type(value) is tuple and len(value) == len(plan.procedures) and all(
                    type(cells) is tuple and len(cells) == slots and all(
                        type(cell) is int and plan.commons <= cell < 16 for cell in cells)
                    for cells, (slots, _) in zip(value, plan.procedures))
                self.assertIs(is_placement(plan, value), right)


class SavesTest(unittest.TestCase):
    def test_what_are_saves(self):
        self.assertEqual(all_saves(RECURSIVE), [(0, 2, 0), (0, 2, 1), (1, 2, 0)])
        for value in [(), ((0, 2, 0),), ((0, 2, 0), (0, 2, 1), (1, 2, 0)), ((0, 2, 1), (1, 2, 0))]:
            self.assertIs(is_saves(RECURSIVE, value), True)
            self.assertIs(is_saves(plan=RECURSIVE, value=value), True)
        for value in [[], [(0, 2, 0)], ([0, 2, 0],), ((0, 2, 1), (0, 2, 0)), ((0, 2, 0), (0, 2, 0)),
                      ((1, 2, 0), (0, 2, 0)), ((0, 1, 0),), ((0, 3, 0),), ((0, 4, 0),), ((0, 5, 0),), ((0, 2, 2),),
                      ((0, 2, -1),), ((2, 2, 0),),
                      ((-1, 2, 0),), ((0, 2, False),), ((0, 2, True),), ((False, 2, 0),), ((0, 2),), ((0, 2, 0, 0),),
                      (0, 2, 0), ((0, "2", 0),), ((0, None, 0),), (None,), ((0, 2, 0), None), ((0, 2, (0,)),), None]:
            self.assertIs(is_saves(RECURSIVE, value), False)

    def test_only_what_is_wanted(self):
        # slot 0 is written ahead of the read behind the call, slot 1 read and then written, slot 2 not at all
        plan = Plan(0, [(3, (do("a", (), (0,)), do("a", (), (1,)), do("a", (), (2,)), ("call", 1), do("b", (), (0,)),
                             do("c", (0, 1), (1,)), BACK)), (0, (BACK,))])
        self.assertEqual([is_saves(plan, ((0, 3, s),)) for s in range(3)], [False, True, False])
        # on one way only, through another call line, and at a call line that is not come to
        plan = Plan(0, [(1, (do("a", (), (0,)), ("call", 1), ("ask", "t", (), (4,)), BACK, ("call", 1), do("b", (0,)),
                             BACK)), (1, (BACK, ("call", 0), do("c", (0,)), BACK))])
        self.assertEqual(all_saves(plan), [(0, 1, 0), (0, 4, 0), (1, 1, 0)])
        self.assertIs(is_saves(plan, ((0, 1, 0), (0, 4, 0), (1, 1, 0))), True)

    def test_every_triple_as_written(self):
        source = seeded(211)
        seen = {True: 0, False: 0}
        for turn in range(150):
            plan = any_plan(source, turn)
            right = all_saves(plan)
            for f, p in all_places(plan):
                for s in range(-1, 5):
                    found = is_saves(plan, ((f, p, s),))
                    self.assertIs(found, (f, p, s) in right)
                    seen[found] += 1
            self.assertIs(is_saves(plan, tuple(right)), True)
            self.assertIs(is_saves(plan, right), False)
            if len(right) > 1:
                self.assertIs(is_saves(plan, tuple(right[::-1])), False)
            for value in with_odd_parts(tuple(right[:4])):
                self.assertIs(is_saves(plan, value), False)
        self.assertGreater(min(seen.values()), 100)

    def test_any_value(self):
        for value in ANY_VALUES:
            self.assertIs(is_saves(RECURSIVE, value), type(value) is tuple and not value)


class CellsRunTest(unittest.TestCase):
    def test_by_hand(self):
        # all three slots on one cell, nothing saved
        self.assertEqual(cells_run(RECURSIVE, ((1, 1), (1,)), (), (0, 0, 0, 0, 1, 0, 0)), (
            ("a", 1, (), 0), ("b", 1, (), 0), ("t", 2, (0,), 0), ("d", 1, (), 0), ("t", 2, (0,), 1),
            ("e", 1, (4,), 0), ("c", 1, (4, 4, 6), 0), ()))
        # one slot saved at the call, on its cell again behind it
        self.assertEqual(cells_run(RECURSIVE, ((2, 1), (1,)), ((0, 2, 1),), (0, 0, 0, 0, 1, 0, 0))[6],
                         ("c", 1, (1, 2, 6), 0))
        told = cells_run(RECURSIVE, ((3, 1), (2,)), (), (0, 0, 0, 0, 0, 0, 1, 0, 0))
        self.assertEqual(told[7:9], (("e", 1, (6,), 0), ("e", 1, (6,), 0)))
        told = cells_run(RECURSIVE, ((3, 1), (2,)), ((1, 2, 0),), (0, 0, 0, 0, 0, 0, 1, 0, 0))
        self.assertEqual(told[7:9], (("e", 1, (6,), 0), ("e", 1, (4,), 0)))
        self.assertEqual(cells_run(plan=EMPTY, placement=((),), saves=(), moves=(1,)), ((),))

    def test_as_written(self):
        source = seeded(212)
        differ = 0
        for turn in range(300):
            plan = any_plan(source, turn)
            placement, saves = random_placement(source, plan, turn % 3), random_saves(source, plan)
            for most in (0, 8, 40):
                moves = random_moves(source, most)
                told = cells_run(plan, placement, saves, moves)
                self.assertEqual(told, cells_told(plan, placement, saves, moves))
                self.assertTrue(is_plain(told))
                differ += told != plan_run(plan, moves)
        self.assertGreater(differ, 30)

    def test_common_variables_lie_on_their_own_cells(self):
        plan = Plan(3, [(1, (do("a", (), (2,)), do("b", (), (3,)), do("c", (0, 2, 3)), BACK))])
        for cell in range(3, 16):
            self.assertEqual(cells_run(plan, ((cell,),), (), (0, 0, 0))[2], ("c", 1, (0, 1, 2), 0))

    def test_errors_in_their_order(self):
        placement, saves, moves = ((1, 2), (3,)), ((0, 2, 0),), (0,)
        for value in [*ANY_VALUES, [(1, 2), (3,)], ((0, 2), (3,)), ((1, 2), (True,)), ((1, 2),)]:
            for call in (cells_run, placed):
                more = (None,) if call is cells_run else ()
                self.assertIs(caught(self, InvalidPlacement, call, RECURSIVE, value, None, *more).value, value)
        for value in [*ANY_VALUES, [], ((0, 2, 1), (0, 2, 0)), ((0, 1, 0),), ((0, 2, False),)]:
            if value == () and type(value) is tuple:
                continue
            self.assertIs(caught(self, InvalidSaves, cells_run, RECURSIVE, placement, value, None).value, value)
            self.assertIs(caught(self, InvalidSaves, placed, RECURSIVE, placement, value).value, value)
        for value in [[], None, (True,), (-1,), ("0",), 0, ((0,),)]:
            self.assertIs(caught(self, InvalidMoves, cells_run, RECURSIVE, placement, saves, value).value, value)
        self.assertEqual(cells_run(RECURSIVE, placement, saves, moves)[0], ("a", 1, (), 0))


class PlacedTest(unittest.TestCase):
    def test_by_hand(self):
        code = placed(RECURSIVE, ((4, 3), (4,)), ((0, 2, 0), (0, 2, 1), (1, 2, 0)))
        self.assertEqual(code.lines, (
            ("do", "a>4"), ("do", "b>3"), ("do", "push.4"), ("do", "push.3"), ("call", 9), ("do", "pop>3"),
            ("do", "pop>4"), ("do", "c.4.3.0"), BACK,
            ("ask", "t.0", (15,)), ("do", "d>4"), ("do", "push.4"), ("call", 9), ("do", "pop>4"), ("do", "e.4>0"),
            BACK))
        self.assertEqual(placed(plan=EMPTY, placement=((),), saves=()), SMALL)

    def test_what_leads_to_a_call_line_leads_to_the_first_line_that_saves(self):
        plan = Plan(0, [(1, (do("a", (), (0,)), ("ask", "t", (), (3, 4)), ("go", 3), ("call", 1), do("b", (0,)), BACK)),
                        (1, (("go", 3), ("call", 1), do("c", (0,)), ("ask", "u", (), (6,)), do("d", (), (0,)),
                             ("go", 1), BACK))])
        self.assertEqual(all_saves(plan), [(0, 3, 0), (1, 1, 0)])
        self.assertEqual(placed(plan, ((7,), (8,)), ((0, 3, 0), (1, 1, 0))).lines, (
            ("do", "a>7"), ("ask", "t", (3, 6)), ("go", 3), ("do", "push.7"), ("call", 8), ("do", "pop>7"),
            ("do", "b.7"), BACK, ("go", 13), ("do", "push.8"), ("call", 8), ("do", "pop>8"), ("do", "c.8"),
            ("ask", "u", (16,)), ("do", "d>8"), ("go", 9), BACK))
        # without saves, with one of them, and with call lines that stand at the beginning
        self.assertEqual(placed(plan, ((7,), (8,)), ()).lines[1:7], (
            ("ask", "t", (3, 4)), ("go", 3), ("call", 6), ("do", "b.7"), BACK, ("go", 9)))
        self.assertEqual(placed(plan, ((7,), (8,)), ((1, 1, 0),)).lines[1:8], (
            ("ask", "t", (3, 4)), ("go", 3), ("call", 6), ("do", "b.7"), BACK, ("go", 11), ("do", "push.8")))
        plan = Plan(1, [(0, (("call", 1), ("ask", "t", (0,), (0,)), BACK)), (0, (("call", 2), BACK)), (0, (BACK,))])
        self.assertEqual(placed(plan, ((), (), ()), ()).lines, (
            ("call", 3), ("ask", "t.0", (0,)), BACK, ("call", 5), BACK, BACK))

    def test_as_written(self):
        source = seeded(213)
        seen = {}
        for turn in range(300):
            plan = any_plan(source, turn)
            placement, saves = random_placement(source, plan, turn % 2), random_saves(source, plan)
            self.assert_placed(plan, placement, saves, seen)
        self.assertGreater(min(seen[told] for told in ("placed", "TooLarge", "saved")), 20)

    def assert_placed(self, plan, placement, saves, seen):
        lines = placed_lines(plan, placement, saves)
        told = "placed"
        if len(lines) > 32:
            told = "TooLarge"
            self.assertEqual(caught(self, TooLarge, placed, plan, placement, saves).many, len(lines))
        else:
            try:
                code = Code(lines)
                self.assertEqual(placed(plan, placement, saves), code)
                seen["saved"] = seen.get("saved", 0) + bool(saves)
            except TooLong as error:
                told = "TooLong"
                self.assertEqual(caught(self, TooLong, placed, plan, placement, saves).place, error.place)
        seen[told] = seen.get(told, 0) + 1

    def test_too_large(self):
        source = seeded(214)
        saves = tuple((0, 4, s) for s in range(4))
        for many in range(5):
            code = placed(ALL_WITH_ALL, random_placement(source, ALL_WITH_ALL), saves[:many])
            self.assertEqual(len(code), 15 + 2 * many)
        plan = Plan(0, [(4, tuple(do("w", (), (s,)) for s in range(4)) + (("call", 1),) * 4 + (
            do("r", (0, 1, 2)), do("r", (3,)), BACK)), (0, (BACK,))])
        saves = all_saves(plan)
        self.assertEqual(len(saves), 16)
        for many in (10, 11, 16):
            lines = 12 + 2 * many
            if lines > 32:
                error = caught(self, TooLarge, placed, plan, ((0, 1, 2, 3), ()), tuple(saves[:many]))
                self.assertEqual(error.many, lines)
            else:
                self.assertEqual(len(placed(plan, ((0, 1, 2, 3), ()), tuple(saves[:many]))), lines)

    def test_too_long(self):
        # a norm of 32 that becomes 34 by a push and a pop
        plan = Plan(0, [(1, (do("w", (), (0,)), ("call", 1), do("r", (0,)), BACK)), (0, (("call", 2),) * 10 + (BACK,)),
                        (0, (do("a"),) * 3 + (BACK,))])
        self.assertEqual(len(placed(plan, ((0,), (), ()), ())), 19)
        self.assertEqual(caught(self, TooLong, placed, plan, ((0,), (), ()), ((0, 1, 0),)).place, 0)
        plan = Plan(0, [(0, (BACK,)), (1, (do("w", (), (0,)), ("call", 2), do("r", (0,)), BACK)),
                        (0, (("call", 3),) * 10 + (BACK,)), (0, (do("a"),) * 3 + (BACK,))])
        self.assertEqual(caught(self, TooLong, placed, plan, ((), (0,), (), ()), ((1, 1, 0),)).place, 1)


class CellRunTest(unittest.TestCase):
    def test_placed_codes(self):
        source = seeded(215)
        many = 0
        for turn in range(400):
            plan = any_plan(source, turn)
            placement, saves = random_placement(source, plan, turn % 2), random_saves(source, plan)
            try:
                code = placed(plan, placement, saves)
            except (TooLarge, TooLong):
                continue
            for _ in range(4):
                moves = random_moves(source, 40)
                self.assertEqual(cell_run(code, moves), cells_run(plan, placement, saves, moves))
                if is_right(plan, placement, saves):
                    self.assertEqual(cell_run(code, moves), plan_run(plan, moves))
                    many += 1
        self.assertGreater(many, 200)

    def test_by_hand(self):
        code = Code([("do", "a>1"), ("do", "push.1"), ("do", "b.1>1"), ("do", "pop>2"), ("do", "c.1.2"),
                     ("do", "pop>1"), ("ask", "t.1>5", (8,)), ("do", "d.5"), BACK])
        self.assertEqual(cell_run(code, ()), (("a", 1, ()),))
        self.assertEqual(cell_run(code, (7, 8, 9, 6, 1)), (
            ("a", 1, (), 0), ("b", 1, (1,), 0), ("c", 1, (2, 1), 0), ("t", 2, (0,), 0), ("d", 1, (4,), 0), ()))
        self.assertEqual(cell_run(code=code, moves=(0, 0, 0, 1))[3:], (("t", 2, (0,), 1), ()))

    def test_push_and_pop_words_of_other_forms_are_events(self):
        words = ("push", "push.1.2", "push.1>2", "push>1", "pop", "pop.1", "pop.1>2", "pusk.1", "popp>1")
        code = Code([("do", word) for word in words] + [("ask", "push.1", (0,)), ("ask", "pop>1", (0,)), BACK])
        told = cell_run(code, (0,) * 20)
        self.assertEqual([thing[0] for thing in told[:-1]], [word_parts(word)[0] for word in words] + ["push", "pop"])
        self.assertEqual(told[1][2], (0, 0))
        self.assertEqual(told[5][2], (4,))
        silent = Code([("do", "push.1"), ("do", "pop>2"), ("do", "pop>15"), BACK])
        self.assertEqual(cell_run(silent, ()), ((),))
        self.assertEqual(cell_run(silent, (1, 2)), ((),))

    def test_calls_and_stacks(self):
        # what a call leaves on the stack stays there
        code = Code([("do", "a>1"), ("call", 5), ("do", "pop>3"), ("do", "b.3.1"), BACK,
                     ("do", "push.1"), ("do", "c>1"), BACK])
        told = (("a", 1, (), 0), ("c", 1, (), 0), ("b", 1, (1, 2), 0), ())
        self.assertEqual(cell_run(code, (0, 0, 0)), told)

    def test_random_codes_as_written(self):
        source = seeded(216)
        for _ in range(400):
            code = random_code(source, source.randrange(1, 33), WORDS)
            moves = random_moves(source, source.choice([0, 5, 40]))
            told = cell_run(code, moves)
            self.assertEqual(told, told_on_cells(code, moves))
            self.assertTrue(is_plain(told))

    def test_up_to_400_moves(self):
        source = seeded(217)
        for plan in [*SAMPLES, *plans_near_the_bounds(source)]:
            code = placed(plan, random_placement(source, plan), ())
            for many in (399, 400):
                moves = tuple(source.randrange(10) for _ in range(many))
                self.assertEqual(cell_run(code, moves), told_on_cells(code, moves))
                self.assertEqual(cell_run(code, (0,) * many), told_on_cells(code, (0,) * many))

    def test_moves_that_are_none(self):
        for value in [[], [0], (True,), (-1,), None, 0, "0", ((),), (0, [1]), SMALL]:
            self.assertIs(caught(self, InvalidMoves, cell_run, SMALL, value).value, value)
        self.assertRaises(Endless, Code, [("do", "push.1"), ("go", 0)])

    def test_path_on_two_cells(self):
        code = placed(PATH, ((2, 3, 2, 3),), ())
        self.assertEqual(cell_run(code, (0,) * 6), plan_run(PATH, (0,) * 6))


if __name__ == "__main__":
    unittest.main()
