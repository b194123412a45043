import unittest

from calltrim.clashes import clashes, forced_saves
from calltrim.errors import InvalidPlacement, InvalidSaves, Undefined
from calltrim.plans import Plan, plan_run
from calltrim.placements import cells_run
from calltrim.rightness import is_right, wrong_moves
from mutants import ANY_VALUES
from plan_reference import all_saves, all_slots, cells_told, plan_told
from plan_support import (
    ALL_WITH_ALL, BACK, EMPTY, NO_SLOTS, PATH, RECURSIVE, RING, SAMPLES, any_plan, do, plans_near_the_bounds,
    random_placement, random_saves)
from support import caught, is_plain, random_moves, seeded


def own_cells(plan):
    """A placement in which no two slots have one cell."""
    cells = iter(range(plan.commons, 16))
    return tuple(tuple(next(cells) for _ in range(slots)) for slots, _ in plan.procedures)


def is_right_as_written(plan, placement, saves):
    for x, y in clashes(plan, saves):
        if x == y or placement[x[0]][x[1]] == placement[y[0]][y[1]]:
            return False
    return True


class RightnessTest(unittest.TestCase):
    def assert_wrong(self, plan, placement, saves):
        moves = wrong_moves(plan, placement, saves)
        self.assertTrue(is_plain(moves) and type(moves) is tuple)
        self.assertNotEqual(cells_told(plan, placement, saves, moves), plan_told(plan, moves))
        self.assertNotEqual(cells_run(plan, placement, saves, moves), plan_run(plan, moves))

    def test_by_hand(self):
        everything = tuple(all_saves(RECURSIVE))
        for placement, saves, right in [
                (((1, 2), (3,)), (), False), (((1, 2), (3,)), ((1, 2, 0),), True),
                (((1, 2), (1,)), ((1, 2, 0),), False),
                (((1, 2), (1,)), ((0, 2, 0), (1, 2, 0)), True), (((1, 1), (3,)), everything, False),
                (((1, 2), (2,)), ((0, 2, 0), (1, 2, 0)), False), (((1, 2), (2,)), everything, True)]:
            self.assertIs(is_right(RECURSIVE, placement, saves), right)
            if right:
                error = caught(self, Undefined, wrong_moves, plan=RECURSIVE, placement=placement, saves=saves)
                self.assertEqual(error.what, "right")
            else:
                self.assert_wrong(RECURSIVE, placement, saves)
        self.assertIs(is_right(plan=PATH, placement=((2, 3, 2, 3),), saves=()), True)
        self.assertIs(is_right(PATH, ((2, 3, 3, 2),), ()), False)
        self.assertIs(is_right(RING, ((0, 1, 0, 1), (2,)), ()), True)
        self.assertIs(is_right(RING, ((0, 1, 0, 1), (1,)), ()), False)
        self.assertIs(is_right(NO_SLOTS, ((), ()), ()), True)
        self.assertIs(is_right(EMPTY, ((),), ()), True)

    def test_what_a_call_wrote_is_put_back_with_another_slot(self):
        # both slots lie on the cell that is put back behind the call, so only the write ahead of it shows
        plan = Plan(0, [(2, (do("a", (), (0,)), do("b", (), (1,)), ("call", 1), do("c", (0,)), do("d", (1,)), BACK)),
                        (1, (do("e", (), (0,)), BACK))])
        for saves in ((), ((0, 2, 0),), ((0, 2, 1),), ((0, 2, 0), (0, 2, 1))):
            for placement in (((0, 0), (0,)), ((0, 0), (1,)), ((0, 1), (0,)), ((0, 1), (1,))):
                if is_right(plan, placement, saves):
                    caught(self, Undefined, wrong_moves, plan, placement, saves)
                else:
                    self.assert_wrong(plan, placement, saves)
                self.assertIs(is_right(plan, placement, saves), is_right_as_written(plan, placement, saves))

    def test_with_runs_and_facts(self):
        source = seeded(240)
        seen = {True: 0, False: 0}
        for turn in range(500):
            plan = any_plan(source, turn)
            placement = random_placement(source, plan, turn % 3)
            saves = random_saves(source, plan, source.choice([0.3, 0.7, 1]))
            right = is_right(plan, placement, saves)
            self.assertIs(right, is_right_as_written(plan, placement, saves))
            seen[right] += 1
            if not right:
                self.assert_wrong(plan, placement, saves)
                continue
            self.assertEqual(caught(self, Undefined, wrong_moves, plan, placement, saves).what, "right")
            for _ in range(4):
                moves = random_moves(source, 40)
                self.assertEqual(cells_told(plan, placement, saves, moves), plan_told(plan, moves))
        self.assertGreater(min(seen.values()), 100)

    def test_more_saves_and_cells_of_their_own(self):
        source = seeded(241)
        many = 0
        for turn in range(400):
            plan = any_plan(source, turn)
            placement = random_placement(source, plan)
            saves = random_saves(source, plan, 0.6)
            if is_right(plan, placement, saves):
                more = tuple(save for save in all_saves(plan) if save in saves or source.random() < 0.5)
                self.assertIs(is_right(plan, placement, more), True)
                many += more != saves
        self.assertGreater(many, 15)

    def test_forced_saves_are_those_that_every_right_one_has(self):
        source = seeded(242)
        many = 0
        for turn in range(150):
            plan = any_plan(source, turn)
            forced = forced_saves(plan)
            placement = own_cells(plan)
            self.assertIs(is_right(plan, placement, forced), True)
            for save in forced:
                for kept in (forced, all_saves(plan)):
                    others = tuple(other for other in kept if other != save)
                    self.assertIs(is_right(plan, placement, others), False)
                    self.assert_wrong(plan, placement, others)
                    many += 1
            for save in set(all_saves(plan)) - set(forced):
                others = tuple(other for other in all_saves(plan) if other != save)
                self.assertIs(is_right(plan, placement, others), True)
        self.assertGreater(many, 100)

    def test_near_the_bounds(self):
        source = seeded(243)
        for plan in [*SAMPLES, *plans_near_the_bounds(source)]:
            for saves in ((), forced_saves(plan), tuple(all_saves(plan))):
                for placement in (own_cells(plan), random_placement(source, plan, True)):
                    if not is_right(plan, placement, saves):
                        self.assert_wrong(plan, placement, saves)
            if all_slots(plan) and clashes(plan, forced_saves(plan)):
                same = tuple((15,) * slots for slots, _ in plan.procedures)
                self.assert_wrong(plan, same, forced_saves(plan))

    def test_errors_in_their_order(self):
        for call in (is_right, wrong_moves):
            for value in [*ANY_VALUES, [(1, 2), (3,)], ((0, 2), (3,)), ((1, 2), (True,)), ((1, 2),)]:
                self.assertIs(caught(self, InvalidPlacement, call, RECURSIVE, value, None).value, value)
            for value in [*ANY_VALUES, [], ((0, 2, 1), (0, 2, 0)), ((0, 1, 0),), ((0, 2, False),)]:
                if type(value) is not tuple or value:
                    self.assertIs(caught(self, InvalidSaves, call, RECURSIVE, ((1, 2), (3,)), value).value, value)
        self.assertIs(is_right(ALL_WITH_ALL, own_cells(ALL_WITH_ALL), ()), True)


if __name__ == "__main__":
    unittest.main()
