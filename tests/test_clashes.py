import unittest

from calltrim.clashes import clash_moves, clashes, facts, forced_saves, keep_apart, shows_clash, shows_forced
from calltrim.errors import InvalidSaves, InvalidSlot, Undefined
from calltrim.plans import Plan
from mutants import ANY_VALUES, changed, with_odd_parts, with_part
from plan_reference import (
    all_places, all_saves, all_slots, are_facts_as_written, covers_as_written, keep_apart_as_written, shown,
    shows_clash_as_written, shows_forced_as_written)
from plan_support import (
    ALL_WITH_ALL, BACK, EMPTY, IDLE, NO_SLOTS, PATH, RECURSIVE, RING, RING_CLASHES, SAMPLES, any_plan, do,
    plans_near_the_bounds, random_saves)
from support import SMALL, caught, is_plain, random_moves, seeded

NO_SLOTS_AT_ALL = [None, 0, (), (0,), (0, 0, 0), [0, 0], (5, 0), (-1, 0), (0, 4), (False, 0), (0, False), ("0", 0),
                   (0, (0,))]


def pairs_of(plan):
    slots = all_slots(plan)
    return [(x, y) for x in slots for y in slots if x <= y]


class ClashesTest(unittest.TestCase):
    def test_by_hand(self):
        everything = tuple(all_saves(RECURSIVE))
        self.assertEqual(clashes(RECURSIVE, ()), (
            ((0, 0), (0, 1)), ((0, 0), (1, 0)), ((0, 1), (1, 0)), ((1, 0), (1, 0))))
        self.assertEqual(clashes(RECURSIVE, everything), (((0, 0), (0, 1)),))
        self.assertEqual(clashes(RECURSIVE, ((1, 2, 0),)), (
            ((0, 0), (0, 1)), ((0, 0), (1, 0)), ((0, 1), (1, 0))))
        self.assertEqual(clashes(RECURSIVE, ((0, 2, 1), (1, 2, 0))), (((0, 0), (0, 1)), ((0, 0), (1, 0))))
        self.assertEqual(clashes(RING, ()), RING_CLASHES)
        self.assertEqual(clashes(plan=PATH, saves=()), (((0, 0), (0, 1)), ((0, 1), (0, 2)), ((0, 2), (0, 3))))
        slots = all_slots(ALL_WITH_ALL)
        self.assertEqual(clashes(ALL_WITH_ALL, ()), tuple((x, y) for x in slots for y in slots if x < y))
        for plan in (NO_SLOTS, EMPTY, IDLE):
            self.assertEqual(clashes(plan, ()), ())

    def test_saves_that_are_not_at_the_call_that_writes(self):
        plan = Plan(0, [(1, (do("a", (), (0,)), ("call", 1), do("b", (0,)), ("call", 2), do("b", (0,)), BACK)),
                        (1, (do("c", (), (0,)), BACK)), (0, (BACK,))])
        self.assertEqual(clashes(plan, ()), (((0, 0), (1, 0)),))
        self.assertEqual(clashes(plan, ((0, 3, 0),)), (((0, 0), (1, 0)),))
        self.assertEqual(clashes(plan, ((0, 1, 0),)), ())

    def test_lines_that_are_not_come_to(self):
        plan = Plan(0, [(2, (do("a", (), (0,)), do("b", (0,)), BACK, do("c", (), (1,)), do("d", (0,)), ("call", 0),
                             do("d", (0, 1)), BACK))])
        self.assertEqual(clashes(plan, ()), ())
        self.assertEqual(forced_saves(plan), ())
        self.assertEqual(all_saves(plan), [(0, 5, 0), (0, 5, 1)])

    def test_each_pair_is_shown_or_kept_apart(self):
        source = seeded(220)
        seen = {"clash": 0, "apart": 0, "self": 0}
        for turn in range(160):
            plan = any_plan(source, turn)
            for saves in (random_saves(source, plan), forced_saves(plan)):
                self.assert_each_pair(plan, saves, seen)
        self.assertGreater(min(seen.values()), 100)

    def assert_each_pair(self, plan, saves, seen):
        told, known = clashes(plan, saves), facts(plan)
        self.assertEqual(list(told), sorted(set(told)))
        self.assertTrue(is_plain(told))
        self.assertTrue(set(told) <= set(pairs_of(plan)))
        for x, y in pairs_of(plan):
            if (x, y) in told:
                moves = clash_moves(plan, saves, x, y)
                self.assertTrue(is_plain(moves))
                self.assertTrue(shows_clash_as_written(plan, saves, x, y, moves))
                self.assertIs(shows_clash(plan, saves, x, y, moves), True)
                self.assertIs(keep_apart(plan, saves, x, y, known), False)
                self.assertTrue(shows_clash_as_written(plan, saves, y, x, clash_moves(plan, saves, y, x)))
            else:
                self.assertTrue(keep_apart_as_written(plan, saves, x, y, known))
                self.assertIs(keep_apart(plan, saves, x, y, known), True)
                self.assertIs(keep_apart(plan, saves, y, x, known), True)
                self.assertEqual(caught(self, Undefined, clash_moves, plan, saves, y, x).what, "apart")
            seen["clash" if (x, y) in told else "apart"] += 1
            seen["self"] += (x, y) in told and x == y

    def test_drawn_moves_show_told_pairs_alone(self):
        source = seeded(221)
        many = 0
        for turn in range(150):
            plan = any_plan(source, turn)
            saves = random_saves(source, plan)
            told = clashes(plan, saves)
            for _ in range(3):
                moves = random_moves(source, 40)
                for held, written, at in shown(plan, moves):
                    if at is None or (*at, held[1]) not in saves:
                        self.assertIn((min(held, written), max(held, written)), told)
                        many += 1
        self.assertGreater(many, 300)

    def test_more_saves_leave_fewer_clashes(self):
        source = seeded(222)
        for turn in range(60):
            plan = any_plan(source, turn)
            some = random_saves(source, plan)
            more = tuple(save for save in all_saves(plan) if save in some or source.random() < 0.5)
            self.assertLessEqual(set(clashes(plan, more)), set(clashes(plan, some)))
            self.assertNotIn(True, [x == y for x, y in clashes(plan, tuple(all_saves(plan)))])

    def test_errors_in_their_order(self):
        for value in [*ANY_VALUES, [], ((0, 2, 1), (0, 2, 0)), ((0, 1, 0),), ((0, 2, False),)]:
            if type(value) is tuple and not value:
                continue
            self.assertIs(caught(self, InvalidSaves, clashes, RECURSIVE, value).value, value)
            self.assertIs(caught(self, InvalidSaves, clash_moves, RECURSIVE, value, None, None).value, value)
        for value in [*ANY_VALUES, *NO_SLOTS_AT_ALL, (0, 2), (1, 1), (2, 0)]:
            self.assertIs(caught(self, InvalidSlot, clash_moves, RECURSIVE, (), value, None).value, value)
            self.assertIs(caught(self, InvalidSlot, clash_moves, RECURSIVE, (), (0, 0), value).value, value)
        error = caught(self, Undefined, clash_moves, plan=RECURSIVE, saves=(), x=(0, 0), y=(0, 0))
        self.assertEqual(error.what, "apart")


class ShowsClashTest(unittest.TestCase):
    def test_by_hand(self):
        plan = Plan(0, [(2, (do("a", (), (0,)), do("b", (), (1,)), do("c", (0, 1)), do("d", (1,), (0,)), BACK))])
        x, y = (0, 0), (0, 1)
        # the event for which no move is left reads, but it writes nothing
        for many, expected in enumerate([False, False, True, True, True, True]):
            self.assertIs(shows_clash(plan, (), x, y, (0,) * many), expected)
            self.assertIs(shows_clash(plan=plan, saves=(), x=y, y=x, moves=(3,) * many), expected)
            self.assertIs(shows_clash(plan, (), x, x, (0,) * many), False)

    def test_waiting_activations(self):
        x, y, z = (0, 0), (0, 1), (1, 0)
        moves = (0, 0, 0, 0, 1, 0)
        self.assertIs(shows_clash(RECURSIVE, (), x, z, moves), True)
        self.assertIs(shows_clash(RECURSIVE, (), x, z, moves[:5]), False)
        self.assertIs(shows_clash(RECURSIVE, ((0, 2, 0),), x, z, moves), False)
        self.assertIs(shows_clash(RECURSIVE, ((0, 2, 0),), y, z, moves), True)
        self.assertIs(shows_clash(RECURSIVE, ((0, 2, 1),), x, z, moves), True)
        # one and the same slot in two activations
        self.assertIs(shows_clash(RECURSIVE, (), z, z, moves), False)
        moves = (0, 0, 0, 0, 0, 0, 1, 0)
        self.assertIs(shows_clash(RECURSIVE, (), z, z, moves), True)
        self.assertIs(shows_clash(RECURSIVE, (), z, z, moves[:7]), False)
        self.assertIs(shows_clash(RECURSIVE, ((1, 2, 0),), z, z, moves), False)
        self.assertIs(shows_clash(RECURSIVE, ((0, 2, 0), (0, 2, 1)), z, z, moves), True)

    def test_a_value_that_is_written_anew_is_not_needed(self):
        plan = Plan(0, [(2, (do("a", (), (0,)), do("b", (), (1,)), do("c", (), (0,)), do("d", (0, 1)), BACK))])
        self.assertIs(shows_clash(plan, (), (0, 0), (0, 1), (0, 0, 0)), True)
        plan = Plan(0, [(2, (do("a", (), (0,)), do("b", (), (1,)), do("c", (), (0,)), do("d", (0,)), BACK))])
        self.assertIs(shows_clash(plan, (), (0, 0), (0, 1), (0, 0, 0, 0)), False)
        # an event that reads and writes reads first
        plan = Plan(0, [(2, (do("a", (), (0,)), do("b", (0,), (1,)), do("c", (1,)), BACK))])
        self.assertIs(shows_clash(plan, (), (0, 0), (0, 1), (0, 0, 0)), False)
        self.assertEqual(clashes(plan, ()), ())

    def test_as_written(self):
        source = seeded(223)
        seen = {True: 0, False: 0}
        for turn in range(150):
            plan = any_plan(source, turn)
            saves = random_saves(source, plan)
            for _ in range(2):
                moves = random_moves(source, 40)
                found = shown(plan, moves)
                for x, y in pairs_of(plan):
                    expected = any({x, y} == {held, written} and (at is None or (*at, held[1]) not in saves)
                                   for held, written, at in found)
                    self.assertIs(shows_clash(plan, saves, x, y, moves), expected)
                    seen[expected] += 1
        self.assertGreater(min(seen.values()), 200)

    def test_changed_moves(self):
        source = seeded(224)
        seen = {True: 0, False: 0}
        for turn in range(60):
            plan = any_plan(source, turn)
            saves = random_saves(source, plan)
            for x, y in clashes(plan, saves)[:6]:
                moves = clash_moves(plan, saves, x, y)
                for value in (moves[:-1], moves + (0,), moves + moves, changed(source, moves)):
                    right = type(value) is tuple and all(type(move) is int and move >= 0 for move in value)
                    expected = right and shows_clash_as_written(plan, saves, x, y, value)
                    self.assertIs(shows_clash(plan, saves, x, y, value), expected)
                    seen[expected] += 1
        self.assertGreater(min(seen.values()), 50)

    def test_any_value(self):
        x, y, moves = (0, 0), (1, 0), (0, 0, 0, 0, 1, 0)
        self.assertIs(shows_clash(RECURSIVE, (), x, y, moves), True)
        for value in [*ANY_VALUES, *NO_SLOTS_AT_ALL]:
            self.assertIs(shows_clash(RECURSIVE, (), value, y, moves), False)
            self.assertIs(shows_clash(RECURSIVE, (), x, value, moves), False)
            self.assertIs(shows_clash(RECURSIVE, (), x, y, value), False)
            self.assertIs(shows_clash(NO_SLOTS, (), value, value, moves), False)

    def test_long_runs(self):
        # recursion that goes on, and recursion that comes back
        for moves in ((0,) * 30000, (0, 0) + (0, 0) * 7000 + (1,) + (0,) * 7100):
            self.assertIs(shows_clash(RECURSIVE, (), (1, 0), (1, 0), moves), 1 in moves)
            self.assertIs(shows_clash(RECURSIVE, (), (0, 0), (0, 1), moves), 1 in moves)
            self.assertIs(shows_forced(RECURSIVE, (1, 2, 0), moves), 1 in moves)


class FactsTest(unittest.TestCase):
    def test_by_hand(self):
        self.assertEqual(facts(plan=EMPTY), (((0, 0),), (), ()))
        plan = Plan(0, [(1, (do("a", (), (0,)), ("call", 1), do("b", (0,)), BACK, BACK)),
                        (1, (do("c", (), (0,)), BACK)),
                        (1, (do("d", (), (0,)), do("d", (0,)), BACK))])
        known = facts(plan)
        self.assertTrue(is_plain(known))
        self.assertTrue(covers_as_written(plan, known))
        for x, y in pairs_of(plan):
            for saves in ((), ((0, 1, 0),)):
                apart = saves != () or (x, y) != ((0, 0), (1, 0))
                self.assertIs(keep_apart(plan, saves, x, y, known), apart)

    def test_one_facts_for_all_saves(self):
        source = seeded(225)
        for turn in range(60):
            plan = any_plan(source, turn)
            known = facts(plan)
            self.assertTrue(are_facts_as_written(plan, known) and covers_as_written(plan, known))
            for share in (0, 0.3, 0.8, 1):
                saves = random_saves(source, plan, share)
                told = clashes(plan, saves)
                for x, y in pairs_of(plan):
                    self.assertIs(keep_apart(plan=plan, saves=saves, x=y, y=x, value=known), (x, y) not in told)

    def test_with_everything(self):
        source = seeded(226)
        for turn in range(30):
            plan = any_plan(source, turn)
            most = everything(plan)
            for x, y in pairs_of(plan):
                saves = random_saves(source, plan)
                expected = keep_apart_as_written(plan, saves, x, y, most)
                self.assertIs(keep_apart(plan, saves, x, y, most), expected)
        self.assertIs(keep_apart(PATH, (), (0, 0), (0, 3), everything(PATH)), False)

    def test_changed_facts(self):
        source = seeded(227)
        seen = {True: 0, False: 0}
        for turn in range(120):
            plan = any_plan(source, turn)
            if not all_slots(plan):
                continue
            known, most = facts(plan), everything(plan)
            for _ in range(12):
                x, y = source.choice(all_slots(plan)), source.choice(all_slots(plan))
                saves = random_saves(source, plan)
                if source.random() < 0.5:
                    part = source.randrange(3)
                    more = [fact for fact in most[part] if fact in known[part] or source.random() < 0.1]
                    value = with_part(known, (part,), tuple(more))
                else:
                    value = changed(source, known)
                expected = keep_apart_as_written(plan, saves, x, y, value)
                self.assertIs(keep_apart(plan, saves, x, y, value), expected)
                seen[expected] += 1
        self.assertGreater(min(seen.values()), 100)

    def test_each_fact_left_out(self):
        source = seeded(228)
        for turn in range(12):
            plan = any_plan(source, turn)
            if not all_slots(plan):
                continue
            known, x = facts(plan), all_slots(plan)[0]
            for part in range(3):
                for at in range(len(known[part])):
                    value = with_part(known, (part,), known[part][:at] + known[part][at + 1:])
                    self.assertIs(keep_apart(plan, tuple(all_saves(plan)), x, x, value), False)

    def test_parts_cut_and_in_each_others_place(self):
        known = facts(PATH)
        x, y = (0, 0), (0, 3)
        self.assertIs(keep_apart(PATH, (), x, y, known), True)
        one, two, three = known
        for value in [(one, two), (one,), (), (one, two, three, ()), (two, one, three), (one, three, two),
                      (three, one, two), ((), two, three), (one, (), three), (one, two, ()), (one[::-1], two, three),
                      (one, two[::-1], three), (one, two, three[::-1]), (one + one, two, three),
                      (one, two + two, three), (one, two, three + three), [one, two, three], (list(one), two, three),
                      (one, list(two), three), (one, two, list(three)), one, None]:
            self.assertIs(keep_apart(PATH, (), x, y, value), False)
        for value in with_odd_parts(known):
            self.assertIs(keep_apart(PATH, (), x, y, value), False)

    def test_any_value(self):
        known = facts(PATH)
        for value in [*ANY_VALUES, *NO_SLOTS_AT_ALL]:
            self.assertIs(keep_apart(PATH, (), (0, 0), (0, 3), value), False)
            self.assertIs(keep_apart(PATH, (), value, (0, 3), known), False)
            self.assertIs(keep_apart(PATH, (), (0, 0), value, known), False)
            for path in ((0,), (1,), (2,), (0, 0), (1, 0), (2, 0), (1, 0, 1), (2, 1, 0)):
                odd = with_part(known, path, value)
                same = repr(odd) == repr(known)
                self.assertIs(keep_apart(PATH, (), (0, 0), (0, 3), odd), same)


def everything(plan):
    """The facts with all places, slots and triples."""
    places, slots = all_places(plan), all_slots(plan)
    wanted = [(f, p, s) for f, p in places for s in range(plan.procedures[f][0])]
    return tuple(places), tuple(wanted), tuple((f, *slot) for f in range(len(plan.procedures)) for slot in slots)


class ForcedSavesTest(unittest.TestCase):
    def test_by_hand(self):
        self.assertEqual(forced_saves(RECURSIVE), ((1, 2, 0),))
        for plan in (RING, PATH, ALL_WITH_ALL, NO_SLOTS, EMPTY, IDLE):
            self.assertEqual(forced_saves(plan=plan), ())
        # recursion through another procedure; the second slot is not written behind the call
        plan = Plan(0, [(2, (do("a", (), (0,)), ("ask", "t", (), (6,)), ("call", 1), do("b", (0,)), BACK, BACK, BACK)),
                        (1, (do("c", (), (0,)), ("call", 0), do("d", (0,)), BACK))])
        self.assertEqual(forced_saves(plan), ((0, 2, 0), (1, 1, 0)))
        # a call behind which the slot is written, and one that does not lead back
        plan = Plan(0, [(1, (do("a", (), (0,)), ("ask", "t", (), (8,)), ("call", 0), do("b", (), (0,)), ("call", 1),
                             do("b", (0,)), ("call", 1), do("c", (0,)), BACK)), (0, (BACK,))])
        self.assertEqual(forced_saves(plan), ())

    def test_each_is_shown_and_no_other_one(self):
        source = seeded(229)
        seen = {"forced": 0, "free": 0}
        for turn in range(150):
            plan = any_plan(source, turn)
            forced = forced_saves(plan)
            self.assertEqual(list(forced), sorted(set(forced)))
            self.assertTrue(is_plain(forced) and set(forced) <= set(all_saves(plan)))
            for save in all_saves(plan):
                f, p, s = save
                others = tuple(other for other in all_saves(plan) if other != save)
                clash = ((f, s), (f, s)) in clashes(plan, others)
                self.assertIs(save in forced, clash)
                if clash:
                    moves = clash_moves(plan, others, (f, s), (f, s))
                    self.assertTrue(shows_forced_as_written(plan, save, moves))
                    self.assertIs(shows_forced(plan, save, moves), True)
                seen["forced" if clash else "free"] += 1
        self.assertGreater(min(seen.values()), 100)

    def test_shows_forced_as_written(self):
        source = seeded(230)
        seen = {True: 0, False: 0}
        for turn in range(150):
            plan = any_plan(source, turn)
            for _ in range(3):
                moves = random_moves(source, 40)
                for f, p in all_places(plan):
                    for s in range(4):
                        right = (f, p, s) in all_saves(plan)
                        expected = right and shows_forced_as_written(plan, (f, p, s), moves)
                        self.assertIs(shows_forced(plan=plan, save=(f, p, s), moves=moves), expected)
                        seen[expected] += 1
        self.assertGreater(min(seen.values()), 30)

    def test_shows_forced_of_any_values(self):
        save, moves = (1, 2, 0), (0, 0, 0, 0, 0, 0, 1, 0)
        self.assertIs(shows_forced(RECURSIVE, save, moves), True)
        for value in [*ANY_VALUES, [1, 2, 0], (1, 2, False), (True, 2, 0), (1, 2), (1, 2, 0, 0), (1, 1, 0), (0, 2, 0),
                      (0, 2, 1), (1, 2, 1), (2, 2, 0), (1, 9, 0), (1, -1, 0), ((1, 2), 0), (1, "2", 0), (1, 2, None)]:
            self.assertIs(shows_forced(RECURSIVE, value, moves), False)
        for value in [*ANY_VALUES, list(moves), moves[:-1], (True, *moves), (*moves, None), (*moves, -1)]:
            self.assertIs(shows_forced(RECURSIVE, save, value), False)


class NearTheBoundsTest(unittest.TestCase):
    def test_plans_near_the_bounds(self):
        source = seeded(231)
        for plan in [*SAMPLES, *plans_near_the_bounds(source)]:
            seen = {"clash": 0, "apart": 0, "self": 0}
            ClashesTest.assert_each_pair(self, plan, (), seen)
            ClashesTest.assert_each_pair(self, plan, forced_saves(plan), seen)
            moves = tuple(source.randrange(60) for _ in range(150))
            found = [{held, written} for held, written, _ in shown(plan, moves)]
            for x, y in pairs_of(plan):
                self.assertIs(shows_clash(plan, (), x, y, moves), {x, y} in found)
                self.assertIs(type(shows_clash(plan, (), x, y, moves + moves + (0,) * 100)), bool)

    def test_equal_calls_return_equal_results(self):
        source = seeded(232)
        for turn in range(20):
            plan = any_plan(source, turn)
            twin = Plan(plan.commons, list(plan.procedures))
            saves = random_saves(source, plan)
            self.assertEqual(clashes(plan, saves), clashes(twin, saves))
            self.assertEqual(facts(plan), facts(twin))
            self.assertEqual(forced_saves(plan), forced_saves(twin))
            for x, y in clashes(plan, saves):
                self.assertEqual(clash_moves(plan, saves, x, y), clash_moves(twin, saves, x, y))

    def test_other_objects_as_values(self):
        self.assertIs(keep_apart(PATH, (), SMALL, (0, 0), facts(PATH)), False)
        self.assertIs(keep_apart(PATH, (), PATH, (0, 0), facts(PATH)), False)
        self.assertIs(shows_clash(PATH, (), (0, 0), (0, 1), PATH), False)
        self.assertIs(shows_forced(PATH, PATH, ()), False)


if __name__ == "__main__":
    unittest.main()
