import unittest
from itertools import combinations, product

from calltrim.cells import cells_hold, cells_paper, laid, least_cells
from calltrim.clashes import clash_moves, clashes, facts, forced_saves
from calltrim.plans import Plan
from calltrim.rightness import is_right
from calltrim.trees import tree_holds, tree_of
from cell_reference import cell_at, cells_paper_as_written, least_by_search, least_groups, tree_as_written
from mutants import ANY_VALUES, changed, paths_of, with_odd_parts, with_part
from plan_reference import all_slots
from plan_support import (
    ALL_WITH_ALL, BACK, EMPTY, IDLE, NO_SLOTS, PATH, RECURSIVE, RING, SAMPLES, any_plan, do, plans_near_the_bounds)
from support import is_plain, seeded

STRAIGHT = Plan(1, [(4, (do("a", (), (1,)), do("b", (), (2,)), do("c", (), (3,)), do("d", (), (4,)), do("e", (1, 2, 3)),
                         do("f", (4,)), BACK))])


def used(placement):
    return sorted({cell for cells in placement for cell in cells})


class LeastCellsTest(unittest.TestCase):
    def test_by_hand(self):
        for plan, many in ((RECURSIVE, 3), (RING, 3), (PATH, 2), (ALL_WITH_ALL, 8), (NO_SLOTS, 0), (EMPTY, 0),
                           (IDLE, 1), (STRAIGHT, 4)):
            self.assertEqual(least_cells(plan=plan), many)
        self.assertEqual(laid(plan=ALL_WITH_ALL)[1], ())
        self.assertEqual(used(laid(ALL_WITH_ALL)[0]), [4, 5, 6, 7, 8, 9, 10, 11])
        self.assertEqual(laid(NO_SLOTS), (((), ()), ()))
        self.assertEqual(laid(IDLE), (((0,) * 4, (0,) * 4), ()))

    def test_compared_with_a_plain_search(self):
        source = seeded(250)
        seen = {}
        for turn in range(160):
            plan = any_plan(source, turn)
            many = least_cells(plan)
            self.assertEqual(many, least_by_search(plan))
            self.assertIs(type(many), int)
            seen[many] = seen.get(many, 0) + 1
        self.assertLessEqual({0, 1, 2, 3, 4}, set(seen))

    def test_laid(self):
        source = seeded(251)
        for turn in range(160):
            self.assert_laid(any_plan(source, turn))

    def assert_laid(self, plan):
        placement, saves = laid(plan)
        self.assertTrue(is_plain(placement) and is_plain(saves))
        self.assertEqual(saves, forced_saves(plan))
        self.assertIs(is_right(plan, placement, saves), True)
        many = least_cells(plan)
        self.assertEqual(used(placement), list(range(plan.commons, plan.commons + many)))
        self.assertEqual(laid(Plan(plan.commons, list(plan.procedures))), (placement, saves))

    def test_near_the_bounds(self):
        source = seeded(252)
        for plan in [*SAMPLES, *plans_near_the_bounds(source)]:
            self.assert_laid(plan)
            self.assertEqual(least_cells(plan), least_by_search(plan))
            self.assertIs(cells_hold(plan, least_cells(plan), cells_paper(plan)), True)


class CellsPaperTest(unittest.TestCase):
    def assert_paper(self, plan):
        many, paper = least_cells(plan), cells_paper(plan)
        self.assertTrue(is_plain(paper))
        self.assertTrue(cells_paper_as_written(plan, many, paper))
        self.assertIs(cells_hold(plan=plan, many=many, paper=paper), True)
        for other in (many - 1, many + 1, True, None, (many,), str(many), 10 ** 11):
            self.assertIs(cells_hold(plan, other, paper), False)
        return many, paper

    def test_samples(self):
        for plan in [*SAMPLES, STRAIGHT]:
            self.assert_paper(plan)
        self.assertEqual(cells_paper(NO_SLOTS), (((), ()), facts(NO_SLOTS), (), ()))
        self.assertEqual(cells_paper(PATH)[3], (0, 1))
        self.assertEqual(cells_paper(RING)[3][0], "join")
        self.assertEqual(cells_paper(ALL_WITH_ALL)[3], (0, 1, 2, 3, 4, 5, 6, 7))

    def test_random_plans(self):
        source = seeded(253)
        for turn in range(120):
            self.assert_paper(any_plan(source, turn))

    def test_changed_at_one_place(self):
        source = seeded(254)
        seen = {True: 0, False: 0}
        for turn in range(120):
            plan = [RING, RECURSIVE, PATH, STRAIGHT, any_plan(source, turn), any_plan(source, turn + 1)][turn % 6]
            many, paper = least_cells(plan), cells_paper(plan)
            for _ in range(12):
                part = source.randrange(4)
                value = with_part(paper, (part,), changed(source, paper[part]))
                expected = cells_paper_as_written(plan, many, value)
                self.assertIs(cells_hold(plan, many, value), expected, value)
                seen[expected] += 1
        self.assertGreater(min(seen.values()), 50)

    def test_a_list_or_a_bool_anywhere(self):
        for plan in (RING, RECURSIVE, NO_SLOTS):
            many, paper = least_cells(plan), cells_paper(plan)
            for value in with_odd_parts(paper):
                self.assertIs(cells_hold(plan, many, value), False)

    def test_other_placements(self):
        many, (placement, known, runs, tree) = 3, cells_paper(RING)
        right = wrong = 0
        self.assertEqual(placement, laid(RING)[0])
        for cells in product(range(4), repeat=5):
            value = (cells[:4], cells[4:])
            expected = set(cells) == {0, 1, 2} and all(
                cell_at(value, x) != cell_at(value, y) for x, y in clashes(RING, ()))
            self.assertIs(cells_hold(RING, many, (value, known, runs, tree)), expected)
            right, wrong = right + expected, wrong + (not expected)
        self.assertGreater(right, 10)
        self.assertGreater(wrong, 10)
        # a right placement on more cells does not go with trees of fewer or of as many
        more = ((0, 1, 0, 2), (3,))
        for other in (2, 3, 4):
            self.assertIs(cells_hold(RING, other, (more, known, runs, tree)), False)

    def test_more_cells_than_needed(self):
        # two slots on cells of their own, though they do not clash
        plan = Plan(0, [(2, (do("a", (), (0,)), do("b", (0,)), do("c", (), (1,)), do("d", (1,)), BACK))])
        _, known, runs, tree = cells_paper(plan)
        self.assertEqual((least_cells(plan), runs, tree), (1, (), (0,)))
        self.assertIs(cells_hold(plan, 1, (((0, 0),), known, (), (1,))), True)
        for tree in ((0, 1), ("join", 0, 1, (0,), (0, 1)), ("join", 0, 1, (0, 0), (0, 1)), (0,), ()):
            self.assertIs(cells_hold(plan, 2, (((0, 1),), known, (), tree)), False)
        self.assertIs(cells_hold(plan, 1, (((0, 0),), known, (), ("join", 0, 1, (0,), (0,)))), True)
        self.assertIs(cells_hold(plan, 1, (((1, 1),), known, (), (0,))), False)

    def test_runs(self):
        many, (placement, known, runs, tree) = 3, cells_paper(RING)

        def holds(*others):
            return cells_hold(RING, many, (placement, known, others, tree))

        self.assertIs(holds(*runs), True)
        self.assertIs(holds(*runs[::-1]), False)
        self.assertIs(holds(*runs, runs[-1]), False)
        self.assertIs(holds(runs[0], *runs), False)
        self.assertIs(holds(), False)
        for at, (x, y, moves) in enumerate(runs):
            self.assertIs(holds(*runs[:at], *runs[at + 1:]), False)
            for shown in ((y, x, moves), (x, y, ()), (x, x, moves), (x, y), (x, y, moves, ()), (x, y, list(moves)),
                          ((x, y), moves), (x, (9, 9), moves), (x, None, moves), (x, y, None)):
                self.assertIs(holds(*runs[:at], shown, *runs[at + 1:]), False)
            self.assertIs(holds(*runs[:at], (x, y, moves + (5, 5)), *runs[at + 1:]), True)
        # more clashes than the tree needs
        runs, tree = cells_paper(STRAIGHT)[2:]
        self.assertEqual(len(runs), 6)
        self.assertIs(cells_hold(STRAIGHT, 4, (*cells_paper(STRAIGHT)[:2], runs, tree)), True)

    def test_clashes_are_shown_under_the_forced_saves(self):
        # slot 0 clashes with itself unless it is saved, and with slot 1 of the other activation
        plan = Plan(0, [(2, (do("a", (), (0,)), ("ask", "t", (), (4,)), ("call", 0), do("b", (0,)), do("c", (), (1,)),
                             do("d", (1,)), BACK))])
        self.assertEqual(forced_saves(plan), ((0, 2, 0),))
        self.assertEqual(clashes(plan, forced_saves(plan)), ())
        placement, known, runs, tree = cells_paper(plan)
        self.assertEqual((least_cells(plan), runs, tree), (1, (), (0,)))
        moves = clash_moves(plan, (), (0, 0), (0, 1))
        self.assertIs(cells_hold(plan, 2, (((0, 1),), known, (((0, 0), (0, 1), moves),), (0, 1))), False)
        self.assertIs(cells_hold(plan, 1, (placement, known, (((0, 0), (0, 1), moves),), tree)), False)

    def test_trees(self):
        many, (placement, known, runs, tree) = 3, cells_paper(RING)

        def holds(value):
            found = cells_hold(RING, many, (placement, known, runs, value))
            self.assertIs(found, cells_paper_as_written(RING, many, (placement, known, runs, value)))
            return found

        self.assertIs(holds(tree), True)
        # the ring is 2, 1, 0, 3, 4 (the last one the slot of the other procedure)
        by_hand = ("join", 0, 2, (0, 2, 3), (0, 1, 2))
        self.assertIs(holds(by_hand), True)
        for path in paths_of(by_hand)[1:]:
            for new in (0, 1, 2, 3, 4, 5, -1, True, None, "join", (), (0, 1, 2), by_hand, [0]):
                holds(with_part(by_hand, path, new))
        # groups that bar one another already, and one of them joined with another one
        first = ("join", 0, 1, ("join", 0, 1, (0, 1, 2), (0, 1, 2)), by_hand)
        for value in (first, ("join", 0, 1, by_hand, by_hand), ("join", 0, 1, (0, 1), by_hand), by_hand + (0,),
                      by_hand[:4], ("join", 2, 0, *by_hand[3:]), ("join", 0, 0, *by_hand[3:]), (0, 1, 2), (), (2, 1, 0),
                      ("Join", *by_hand[1:]), ("join", 0, 5, *by_hand[3:]), ("join", 0, 2, by_hand[4], by_hand[3]),
                      list(by_hand)):
            holds(value)

    def test_groups_that_bar_one_another_already_may_be_joined(self):
        placement, known, runs, tree = cells_paper(PATH)
        self.assertIs(cells_hold(PATH, 2, (placement, known, runs, ("join", 0, 1, (0, 1), (0, 1)))), True)
        self.assertIs(cells_hold(PATH, 2, (placement, known, runs, ("join", 0, 1, (0, 2), (0, 1)))), False)
        # what is joined into bars what one of its members bars
        self.assertIs(cells_hold(PATH, 2, (placement, known, runs, ("join", 0, 3, (0, 2), (0, 3)))), True)
        self.assertIs(cells_hold(PATH, 2, (placement, known, runs, ("join", 0, 3, (1, 2), (0, 3)))), True)
        deep = ("join", 0, 3, ("join", 0, 2, ("join", 0, 1, (0,), (0, 1)), (0, 2)), (0, 3))
        self.assertIs(cells_hold(PATH, 2, (placement, known, runs, deep)), False)
        later = ("join", 0, 2, ("join", 0, 2, (0, 1), ("join", 0, 1, (0, 1), (0, 2))), (0, 2))
        self.assertEqual(cells_hold(PATH, 2, (placement, known, runs, later)),
                         cells_paper_as_written(PATH, 2, (placement, known, runs, later)))

    def test_any_value(self):
        paper = cells_paper(RING)
        for value in ANY_VALUES:
            self.assertIs(cells_hold(RING, value, paper), False)
            self.assertIs(cells_hold(RING, 3, value), False)
            self.assertIs(cells_hold(NO_SLOTS, 0, value), False)
            for path in ((0,), (1,), (2,), (3,), (0, 0), (1, 0), (1, 2, 0), (2, 0), (2, 0, 2), (3, 1), (3, 3),
                         (3, 4, 0)):
                odd = with_part(paper, path, value)
                self.assertIs(cells_hold(RING, 3, odd), cells_paper_as_written(RING, 3, odd))

    def test_deep_and_large_trees(self):
        placement, known, runs, _ = cells_paper(PATH)
        deep = (0, 1)
        for _ in range(28):
            deep = ("join", 0, 1, (0, 1), deep)
        self.assertIs(cells_hold(PATH, 2, (placement, known, runs, deep)), True)
        wide = (0, 1)
        for _ in range(9):
            wide = ("join", 0, 1, (0, 1), ("join", 1, 2, (0, 1), wide))
        self.assertIs(cells_hold(PATH, 2, (placement, known, runs, wide)), True)
        for _ in range(11):
            deep = ("join", 0, 1, (0, 1), deep)
        self.assertIs(cells_hold(PATH, 3, (placement, known, runs, deep)), False)


class TreesTest(unittest.TestCase):
    """All kinds of groups, also those that are clashes of no plan."""

    def test_random_graphs(self):
        source = seeded(255)
        largest = 0
        for turn in range(150):
            many = source.randrange(1, 9)
            edges = [edge for edge in combinations(range(many), 2) if source.random() < source.choice([0.3, 0.5, 0.8])]
            least = least_groups(list(range(many)), edges)
            names = list(range(many))
            bars = {pair: True for one, other in edges for pair in ((one, other), (other, one))}
            tree = tree_of(names, bars, least)
            largest = max(largest, len(repr(tree)))
            sets = [{one, other} for one, other in edges]
            self.assertTrue(tree_as_written([[name] for name in names], sets, least, tree))
            self.assertIs(tree_holds(names, bars, least, tree), True)
            self.assertIs(tree_holds(names, bars, least + 1, tree), False)
            for _ in range(8):
                value = changed(source, tree)
                expected = tree_as_written([[name] for name in names], sets, least, value)
                self.assertIs(tree_holds(names, bars, least, value), expected)
        self.assertLess(largest, 2000)

    def test_rings_and_others_without_large_leaves(self):
        for many, edges in ((5, [(at, (at + 1) % 5) for at in range(5)]), (7, [(at, (at + 1) % 7) for at in range(7)]),
                            (8, [(at, (at + 1) % 8) for at in range(8)] + [(at, at + 4) for at in range(4)]),
                            (8, [(at, (at + step) % 8) for at in range(8) for step in (1, 2)]),
                            (6, [(at, (at + 1) % 5) for at in range(5)] + [(at, 5) for at in range(5)])):
            bars = {pair: True for one, other in edges for pair in ((one, other), (other, one))}
            least = least_groups(list(range(many)), edges)
            tree = tree_of(list(range(many)), bars, least)
            self.assertIs(tree_holds(list(range(many)), bars, least, tree), True)
            self.assertTrue(tree_as_written([[name] for name in range(many)], [{*edge} for edge in edges], least, tree))
            self.assertIs(tree_holds(list(range(many)), bars, least + 1, tree), False)


if __name__ == "__main__":
    unittest.main()
