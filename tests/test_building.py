import unittest

from calltrim.building import built, built_holds, built_paper, built_run
from calltrim.cells import laid
from calltrim.clashes import facts, forced_saves
from calltrim.codes import Code
from calltrim.cuts import best_cut
from calltrim.errors import InvalidMoves, TooLarge, TooLong, TrimError
from calltrim.images import Image, assembled
from calltrim.placements import cell_run, placed
from calltrim.plans import Plan, plan_run
from calltrim.putting import can_put_in
from calltrim.rightness import is_right
from calltrim.shortening import short_paper, shortened
from cell_reference import facts_as_written
from mutants import ANY_VALUES, changed, with_odd_parts, with_part
from plan_reference import all_saves, placed_lines, plan_told
from plan_support import (
    ALL_WITH_ALL, BACK, EMPTY, IDLE, NO_SLOTS, PATH, RECURSIVE, RING, SAMPLES, any_plan, do, plans_near_the_bounds,
    random_placement)
from support import SMALL, caught, is_plain, random_moves, seeded
from test_rightness import is_right_as_written
from test_shortening import stages_as_written

# asks with several targets, among them some that stand in one another
ASKING = Plan(1, [
    (1, (("ask", "s", (), (4, 8)), do("a", (), (1,)), ("ask", "t", (0,), (4, 8, 0)), do("b", (1,), (0,)),
         ("ask", "u", (), (8,)), do("c"), ("call", 1), ("ask", "v", (), (0, 8)), BACK)),
    (0, (do("d", (0,), (0,)), BACK)),
])


def image_as_written(lines, entry, image):
    """Whether image is the image of the lines with some area, and its entry."""
    if not is_plain(image) or type(image) is not tuple or len(image) != 3 or type(image[0]) is not tuple:
        return False
    words, octets, place = image
    order = []
    for line in lines:
        if line[0] in ("do", "ask") and line[1] not in order:
            order.append(line[1])
    if list(words) != order or place != entry or type(octets) is not tuple:
        return False
    begins, at = [], 1
    for line in lines:
        begins.append(at)
        at += {"do": 2, "back": 1, "go": 2, "call": 2, "ask": 4}[line[0]]
    area, expected = octets[at:], [len(lines)]
    if any(octet not in begins for octet in area) or (area and all(line[0] != "ask" for line in lines)):
        return False
    for line in lines:
        if line[0] == "do":
            expected += [1, order.index(line[1])]
        elif line[0] == "ask":
            table = tuple(begins[target] for target in line[2])
            stands = [k for k in range(len(area)) if area[k:k + len(table)] == table]
            if not stands:
                return False
            expected += [5, order.index(line[1]), len(table), stands[0]]
        else:
            expected += {"back": [2], "go": [3], "call": [4]}[line[0]] + [begins[target] for target in line[1:]]
    return octets == (*expected, *area) and all(octet < 256 for octet in octets)


def built_as_written(plan, value, paper):
    if type(value) is not tuple or len(value) != 4 or type(paper) is not tuple or len(paper) != 2:
        return False
    placement, saves, stages, image = value
    if not is_plain(saves) or saves != forced_saves(plan) or not is_plain(placement) or type(placement) is not tuple:
        return False
    if len(placement) != len(plan.procedures):
        return False
    for cells, (slots, _) in zip(placement, plan.procedures):
        if type(cells) is not tuple or len(cells) != slots or not all(
                type(cell) is int and plan.commons <= cell < 16 for cell in cells):
            return False
    try:
        code = Code(placed_lines(plan, placement, saves))
    except TrimError:
        return False
    if not is_right_as_written(plan, placement, saves) or not facts_as_written(plan, placement, saves, paper[0]):
        return False
    if not stages_as_written(code, (0,), stages, paper[1]):
        return False
    return image_as_written(stages[-1][1], stages[-1][2][0], image)


def with_area(code, area):
    """The octets of a code with these places as its area."""
    image = assembled(code)
    octets, at = list(image.octets), 1
    for place, line in enumerate(code.lines):
        if line[0] == "ask":
            octets[at + 3] = [k for k in range(len(area)) if area[k:k + len(line[2])] == line[2]][0]
        at += {"do": 2, "back": 1, "go": 2, "call": 2, "ask": 4}[line[0]]
    return tuple(octets[:at]) + tuple(image.addresses[place] for place in area)


def value_of(plan, placement, saves):
    """All that follows from a placement with saves."""
    stages = shortened(placed(plan, placement, saves), (0,))
    image = assembled(Code(stages[-1][1]))
    return placement, saves, stages, (image.words, image.octets, stages[-1][2][0])


def paper_of_saves(plan, placement, saves):
    return facts(plan), short_paper(placed(plan, placement, saves), (0,))


class BuiltTest(unittest.TestCase):
    def assert_built(self, plan, source):
        value, paper = built(plan), built_paper(plan)
        placement, saves, stages, image = value
        self.assertTrue(is_plain(value) and is_plain(paper))
        self.assertEqual((placement, saves), laid(plan))
        code = placed(plan, placement, saves)
        self.assertEqual(stages, shortened(code, (0,)))
        last = assembled(Code(stages[-1][1]))
        self.assertEqual(image, (last.words, last.octets, stages[-1][2][0]))
        self.assertEqual(paper[1], short_paper(code, (0,)))
        self.assertTrue(built_as_written(plan, value, paper))
        self.assertIs(built_holds(plan, value, paper), True)
        for most in (0, 10, 40):
            moves = random_moves(source, most)
            told = built_run(value, moves)
            self.assertEqual(told, plan_told(plan, moves))
            self.assertEqual(told, plan_run(plan, moves))
            self.assertTrue(is_plain(told))
        return value, paper

    def test_samples(self):
        source = seeded(260)
        for plan in [*SAMPLES, ASKING]:
            self.assert_built(plan, source)
        stages = (("given", (BACK,), (0,)), ("share", (BACK,), (0,)))
        self.assertEqual(built(plan=EMPTY), (((),), (), stages, ((), (1, 2), 0)))
        self.assertEqual(built_paper(plan=EMPTY), ((((0, 0),), (), ()), ((((), (), ()),),)))
        self.assertEqual(built_run(value=built(EMPTY), moves=()), ((),))

    def test_random_plans(self):
        source = seeded(261)
        many = 0
        for turn in range(200):
            plan = any_plan(source, turn)
            lines = placed_lines(plan, *laid(plan))
            if len(lines) > 32:
                self.assertEqual(caught(self, TooLarge, built, plan).many, len(lines))
                self.assertEqual(caught(self, TooLarge, built_paper, plan).many, len(lines))
                continue
            try:
                Code(lines)
            except TooLong as error:
                self.assertEqual(caught(self, TooLong, built, plan).place, error.place)
                self.assertEqual(caught(self, TooLong, built_paper, plan).place, error.place)
                continue
            self.assert_built(plan, source)
            many += 1
        self.assertGreater(many, 130)

    def test_what_placed_raises(self):
        # two slots that must be saved at three calls each: 14 + 2 * 6 lines more than 32
        lines = (do("a", (), (0,)), do("b", (), (1,)), ("ask", "t", (), (7,)), ("call", 0), ("call", 0), ("call", 0),
                 do("c", (0, 1)), BACK)
        plan = Plan(0, [(2, lines), (2, tuple(("call", 1) if line == ("call", 0) else line for line in lines))])
        self.assertEqual(len(forced_saves(plan)), 6)
        plan = Plan(0, [(2, lines + (("call", 1), BACK)), (0, (do("e"),) * 11 + (BACK,))])
        self.assertEqual(caught(self, TooLarge, built, plan).many, 34)
        self.assertEqual(caught(self, TooLarge, built_paper, plan).many, 34)
        self.assert_nothing_holds(plan)
        # a norm of 32 that becomes more by a push and a pop
        plan = Plan(0, [(1, (do("a", (), (0,)), ("ask", "t", (), (2,)), ("call", 1), do("b", (0,)), BACK)),
                        (0, (("ask", "u", (), (4,)), ("call", 0), BACK, BACK) + (("call", 2),) * 7 + (BACK,)),
                        (0, (do("c"),) * 4 + (BACK,))])
        self.assertEqual(forced_saves(plan), ((0, 2, 0),))
        self.assertEqual(caught(self, TooLong, built, plan).place, caught(self, TooLong, built_paper, plan).place)
        self.assert_nothing_holds(plan)

    def assert_nothing_holds(self, plan):
        placement, saves = laid(plan)
        for other in (EMPTY, RECURSIVE):
            value, paper = built(other), built_paper(other)
            self.assertIs(built_holds(plan, value, paper), False)
            self.assertIs(built_holds(plan, (placement, saves, *value[2:]), (facts(plan), paper[1])), False)
        for value in ANY_VALUES:
            self.assertIs(built_holds(plan, value, value), False)

    def test_up_to_400_moves_and_moves_that_are_none(self):
        source = seeded(262)
        for plan in [*SAMPLES, ASKING, *plans_near_the_bounds(source)]:
            if len(placed_lines(plan, *laid(plan))) > 32:
                continue
            value = built(plan)
            for many in (399, 400):
                moves = tuple(source.randrange(10) for _ in range(many))
                self.assertEqual(built_run(value, moves), plan_run(plan, moves))
                self.assertEqual(built_run(value, (0,) * many), plan_run(plan, (0,) * many))
        for moves in [[], [0], None, 0, True, (True,), (-1,), ("0",), ((),), SMALL]:
            self.assertIs(caught(self, InvalidMoves, built_run, value, moves).value, moves)

    def test_the_run_begins_at_the_entry(self):
        source = seeded(263)
        for turn in range(100):
            plan = any_plan(source, turn)
            if len(placed_lines(plan, *laid(plan))) > 32:
                continue
            value = built(plan)
            words, octets, place = value[3]
            moves = random_moves(source, 30)
            code = Image(words, octets).code
            if place == 0:
                self.assertEqual(built_run(value, moves), cell_run(code, moves))
            self.assertEqual(built_run(value, moves), plan_run(plan, moves))
        # an entry that is not line 0
        value = ((), (), (), (("a", "b"), (5, 1, 0, 2, 1, 1, 4, 1, 2), 2))
        self.assertEqual(built_run(value, (0, 0)), (("b", 1, (), 0), ("a", 1, (), 0), ()))


class BuiltHoldsTest(unittest.TestCase):
    def assert_as_written(self, plan, value, paper):
        found = built_holds(plan=plan, value=value, paper=paper)
        self.assertIs(found, built_as_written(plan, value, paper))
        return found

    def test_other_right_placements(self):
        source = seeded(264)
        seen = {True: 0, False: 0}
        for turn in range(100):
            plan = [RING, PATH, RECURSIVE, any_plan(source, turn)][turn % 4]
            placement, saves = random_placement(source, plan, turn % 8 > 3), forced_saves(plan)
            if len(placed_lines(plan, placement, saves)) > 32:
                continue
            value, paper = value_of(plan, placement, saves), paper_of_saves(plan, placement, saves)
            self.assertIs(self.assert_as_written(plan, value, paper), is_right(plan, placement, saves))
            seen[is_right(plan, placement, saves)] += 1
        self.assertGreater(min(seen.values()), 15)

    def test_two_slots_that_clash_on_one_cell(self):
        placement, saves = ((2, 3, 3, 2),), ()
        value, paper = value_of(PATH, placement, saves), paper_of_saves(PATH, placement, saves)
        self.assertIs(self.assert_as_written(PATH, value, paper), False)
        placement = ((2, 3, 2, 3),)
        value, paper = value_of(PATH, placement, saves), paper_of_saves(PATH, placement, saves)
        self.assertIs(self.assert_as_written(PATH, value, paper), True)
        self.assertIs(built_holds(PATH, with_part(value, (0,), ((3, 2, 3, 2),)), paper), False)
        self.assertIs(built_holds(PATH, with_part(value, (0, 0, 0), 1), paper), False)

    def test_one_save_less_or_more_with_all_that_follows(self):
        placement = ((1, 2), (3,))
        for saves in [(), ((0, 2, 0),), ((0, 2, 0), (1, 2, 0)), ((1, 2, 0),), tuple(all_saves(RECURSIVE))]:
            value, paper = value_of(RECURSIVE, placement, saves), paper_of_saves(RECURSIVE, placement, saves)
            self.assertIs(self.assert_as_written(RECURSIVE, value, paper), saves == ((1, 2, 0),))

    def test_stages(self):
        for plan in (RING, ASKING, RECURSIVE, ALL_WITH_ALL):
            value, paper = built(plan), built_paper(plan)
            stages = value[2]
            others = [stages[:-1], stages[1:], stages[::-1], stages + stages[-1:], (), list(stages), stages[:1],
                      (stages[0], *stages[2:]), (("shared", *stages[0][1:]), *stages[1:]),
                      (*stages[:-1], ("given", *stages[-1][1:])), (*stages[:-1], (*stages[-1][:2], (5,))),
                      (*stages[:-1], (*stages[-1][:2], [0])), (*stages[:-1], (*stages[-1], 0)), None]
            for other in others:
                self.assertIs(self.assert_as_written(plan, with_part(value, (2,), other), paper), False)
            # right stages of another code, with their paper
            other = Code([*placed(plan, *value[:2]).lines, BACK]) if len(placed(plan, *value[:2])) < 32 else SMALL
            more = with_part(value, (2,), shortened(other, (0,)))
            self.assertIs(self.assert_as_written(plan, more, (paper[0], short_paper(other, (0,)))), False)

    def test_stages_that_stop_short_or_have_two_entries(self):
        value, paper = built(RECURSIVE), built_paper(RECURSIVE)
        code = placed(RECURSIVE, *value[:2])
        two = shortened(code, (0, 0))
        other = with_part(value, (2,), two)
        self.assertIs(self.assert_as_written(RECURSIVE, other, (paper[0], short_paper(code, (0, 0)))), False)
        later = next(plan for plan in (any_plan(seeded(265 + turn), turn) for turn in range(50))
                     if len(placed_lines(plan, *laid(plan))) <= 32 and len(built(plan)[2]) > 2)
        value, paper = built(later), built_paper(later)
        short, keys = value[2][:2], paper[1][:1]
        last = assembled(Code(short[-1][1]))
        other = (*value[:2], short, (last.words, last.octets, short[-1][2][0]))
        self.assertIs(self.assert_as_written(later, other, (paper[0], keys)), False)
        shared_code, entries = Code(short[-1][1]), short[-1][2]
        self.assertTrue(best_cut(shared_code, entries) or any(
            can_put_in(shared_code, entries, place) for place in range(len(shared_code))))

    def test_areas(self):
        value, paper = built(ASKING), built_paper(ASKING)
        code = Code(value[2][-1][1])
        tables = [line[2] for line in code.lines if line[0] == "ask"]
        self.assertGreater(len(tables), 2)
        plain = tuple(place for table in tables for place in table)

        def holds(octets):
            other = with_part(value, (3, 1), octets)
            return self.assert_as_written(ASKING, other, paper)

        self.assertIs(holds(with_area(code, plain)), True)
        self.assertIs(holds(with_area(code, plain[::-1] + plain)), True)
        self.assertIs(holds(with_area(code, (0, 1, 2, 3) + plain + (4, 4))), True)
        self.assertIs(holds(with_area(code, plain + (0,) * 200)), True)
        self.assertIs(holds(with_area(code, plain + (0,) * 20000)), True)
        # tables that stand so far behind that k is no octet any more
        self.assertIs(holds(with_area(code, (1,) * 250 + plain)), True)
        self.assertIs(holds(with_area(code, (1,) * 256 + plain)), False)
        # a table not at its first place
        octets = with_area(code, plain + plain)
        spans = {"do": 2, "back": 1, "go": 2, "call": 2, "ask": 4}
        at = 1
        for line in code.lines:
            if line[0] == "ask":
                self.assertIs(holds(octets[:at + 3] + (octets[at + 3] + len(plain),) + octets[at + 4:]), False)
            at += spans[line[0]]
        # an octet of the area that is no address, one that is lacking, an area of none
        self.assertIs(holds(octets + (2,)), 2 in assembled(code).addresses)
        self.assertIs(holds(octets + (255,)), False)
        self.assertIs(holds(octets[:at]), False)
        self.assertIs(holds(octets[:at + 1]), False)
        self.assertIs(holds(octets[:at - 1]), False)

    def test_an_area_where_there_are_no_ask_lines(self):
        value, paper = built(PATH), built_paper(PATH)
        octets = value[3][1]
        self.assertFalse(any(line[0] == "ask" for line in value[2][-1][1]))
        for more in ((1,), (1, 1), (2,), (0,)):
            self.assertIs(self.assert_as_written(PATH, with_part(value, (3, 1), octets + more), paper), False)

    def test_images_changed(self):
        for plan in (RECURSIVE, ASKING, EMPTY, NO_SLOTS, IDLE):
            value, paper = built(plan), built_paper(plan)
            words, octets, place = value[3]
            for at in range(len(octets)):
                for octet in (octets[at] + 1, octets[at] - 1, 0, 255, 256, bool(octets[at])):
                    other = with_part(value, (3, 1), octets[:at] + (octet,) + octets[at + 1:])
                    self.assert_as_written(plan, other, paper)
                self.assert_as_written(plan, with_part(value, (3, 1), octets[:at] + octets[at + 1:]), paper)
                self.assert_as_written(plan, with_part(value, (3, 1), octets[:at]), paper)
            for other in (place + 1, place - 1, bool(place), str(place), None, (place,)):
                self.assertIs(built_holds(plan, with_part(value, (3, 2), other), paper), False)
            for other in (words + ("zz",), words[::-1] if len(words) > 1 else None, words[1:] if words else ("a",),
                          list(words), None):
                self.assertIs(built_holds(plan, with_part(value, (3, 0), other), paper), False)
            for other in ((words, octets), (words, octets, place, 0), (octets, words, place), [words, octets, place],
                          None, Image(words, octets)):
                self.assertIs(built_holds(plan, with_part(value, (3,), other), paper), False)

    def test_papers_changed(self):
        source = seeded(266)
        seen = {True: 0, False: 0}
        for turn in range(120):
            plan = [RECURSIVE, RING, ASKING, PATH, any_plan(source, turn)][turn % 5]
            if len(placed_lines(plan, *laid(plan))) > 32:
                continue
            value, paper = built(plan), built_paper(plan)
            for part in (0, 1):
                for _ in range(4):
                    other = with_part(paper, (part,), changed(source, paper[part]))
                    seen[self.assert_as_written(plan, value, other)] += 1
            for other in ((paper[0],), (paper[1], paper[0]), (*paper, ()), list(paper), None, ((), paper[1]),
                          (paper[0], ())):
                self.assertIs(self.assert_as_written(plan, value, other), False)
        self.assertGreater(min(seen.values()), 20)

    def test_values_changed(self):
        source = seeded(267)
        held = 0
        for turn in range(120):
            plan = [RECURSIVE, RING, ASKING, PATH, any_plan(source, turn)][turn % 5]
            if len(placed_lines(plan, *laid(plan))) > 32:
                continue
            value, paper = built(plan), built_paper(plan)
            for part in range(4):
                for _ in range(3):
                    held += self.assert_as_written(plan, with_part(value, (part,), changed(source, value[part])), paper)
        self.assertGreater(held, 0)

    def test_a_list_or_a_bool_anywhere(self):
        for plan in (RECURSIVE, EMPTY):
            value, paper = built(plan), built_paper(plan)
            for other in with_odd_parts(value):
                self.assertIs(built_holds(plan, other, paper), False)
            for other in with_odd_parts(paper):
                self.assertIs(built_holds(plan, value, other), False)

    def test_facts_with_more(self):
        value, paper = built(RECURSIVE), built_paper(RECURSIVE)
        reached, wanted, written = paper[0]
        for more, right in [((reached, tuple(sorted({*wanted, (0, 0, 0)})), written), True),
                            ((reached, wanted, tuple(sorted({*written, (1, 0, 0)}))), False)]:
            self.assertIs(self.assert_as_written(RECURSIVE, value, (more, paper[1])), right)
        self.assertIs(built_holds(RECURSIVE, value, (facts(RECURSIVE), paper[1])), True)
        self.assertIs(built_holds(RECURSIVE, value, (facts(RING), paper[1])), False)

    def test_other_plans(self):
        papers = [(plan, built(plan), built_paper(plan)) for plan in (RECURSIVE, RING, PATH, ASKING, EMPTY, NO_SLOTS)]
        for plan, _, _ in papers:
            for other, value, paper in papers:
                self.assertIs(built_holds(plan, value, paper), plan == other)

    def test_any_value(self):
        value, paper = built(RECURSIVE), built_paper(RECURSIVE)
        for odd in ANY_VALUES:
            self.assertIs(built_holds(RECURSIVE, odd, paper), False)
            self.assertIs(built_holds(RECURSIVE, value, odd), False)
            for path in [(0,), (1,), (2,), (3,), (0, 0), (0, 0, 0), (1, 0), (2, 1), (2, 1, 1), (3, 0), (3, 1), (3, 2),
                         (3, 1, 0)]:
                other = with_part(value, path, odd)
                self.assertIs(built_holds(RECURSIVE, other, paper), built_as_written(RECURSIVE, other, paper))
            for path in [(0,), (1,), (0, 0), (0, 1), (0, 2), (0, 1, 0), (1, 0), (1, 0, 0), (1, 0, 0, 0)]:
                other = with_part(paper, path, odd)
                self.assertIs(built_holds(RECURSIVE, value, other), built_as_written(RECURSIVE, value, other))

    def test_near_the_bounds(self):
        source = seeded(268)
        for plan in plans_near_the_bounds(source):
            if len(placed_lines(plan, *laid(plan))) <= 32:
                self.assertIs(built_holds(plan, built(plan), built_paper(plan)), True)


if __name__ == "__main__":
    unittest.main()
