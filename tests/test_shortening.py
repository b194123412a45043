import unittest

from calltrim.codes import Code
from calltrim.errors import InvalidEntries, TrimError
from calltrim.cuts import best_cut, cut_out
from calltrim.keys import key_holds, key_of
from calltrim.putting import can_put_in, put_in
from calltrim.sameness import alike
from calltrim.shortening import is_short, short_paper, shortened, stages_hold
from calltrim.tidying import is_shared, shared
from bounds import codes_near_the_bounds, random_long_code
from cut_reference import best_as_written, repeated_code
from mutants import ANY_VALUES, changed, with_odd_parts, with_part
from refactored import layered_code, random_pair
from support import BACK, SMALL, caught, is_plain, random_code, seeded
from tidy_reference import put_in_as_written, share_faults

A, B, C, D = ("do", "a"), ("do", "b"), ("do", "c"), ("do", "d")
TESTED = ("ask", "t", (0,))
# a piece that comes four times
CUT_CODE = Code([A, B, C, TESTED, A, B, C, D, A, B, C, ("ask", "s", (0,)), A, B, C, A, BACK])
# a procedure that is called once
PUT_CODE = Code([A, ("call", 4), D, BACK, ("ask", "t", (6,)), B, BACK, BACK])


def random_entries(source, code):
    return tuple(source.randrange(len(code)) for _ in range(source.choice([1, 1, 2, 3, 4])))


def any_code(source, turn):
    kinds = [lambda: random_code(source, source.randrange(1, 33), source.choice(["a", "ab", "abcd"])),
             lambda: random_pair(source)[1], lambda: random_long_code(source), lambda: layered_code(source),
             lambda: repeated_code(source, 32), lambda: repeated_code(source, source.randrange(6, 33), "abcdefg")]
    return kinds[turn % len(kinds)]()


def is_short_as_written(code, entries):
    if share_faults(code, entries):
        return False
    if any(put_in_as_written(code, entries, place)[0] for place in range(len(code))):
        return False
    return best_cut(code, entries) is None


def is_next(ahead, stage, at):
    """Whether a stage of a code may come behind another one, all of it as written but sameness and the best cut."""
    (before, one, entries), (word, other, moved) = ahead, stage
    if at == 1 or before != "share":
        same = all(alike(one, (old,), other, (new,)) for old, new in zip(entries, moved))
        return word == "share" and same and not share_faults(other, moved) and len(other) <= len(one)
    if word == "put in":
        return any(put_in_as_written(one, entries, place)[0] == (other.lines, moved) for place in range(len(one)))
    best = best_cut(one, entries)
    return word == "cut" and best is not None and cut_out(one, entries, best) == (other, moved)


def stages_as_written(code, entries, stages, paper):
    try:
        return looked_at(code, entries, stages, paper)
    except (TypeError, ValueError, AttributeError, IndexError):
        return False


def looked_at(code, entries, stages, paper):
    if not is_plain(stages) or not is_plain(paper) or stages[0] != ("given", code.lines, entries):
        return False
    made = [(word, Code(lines), moved) for word, lines, moved in stages]
    if any(len(moved) != len(entries) or not all(0 <= entry < len(one) for entry in moved) for _, one, moved in made):
        return False
    if len(made) < 2 or len(paper) != len(made) - 1:
        return False
    for at in range(1, len(made)):
        (_, one, left), (_, other, right) = made[at - 1], made[at]
        if not is_next(made[at - 1], made[at], at) or len(paper[at - 1]) != len(entries):
            return False
        if not all(key_holds(one, (old,), other, (new,), key) for old, new, key in zip(left, right, paper[at - 1])):
            return False
    return made[-1][0] == "share" and is_short_as_written(*made[-1][1:])


class ShortenedTest(unittest.TestCase):
    def assert_stages(self, code, entries):
        stages, paper = shortened(code, entries), short_paper(code, entries)
        self.assertTrue(is_plain(stages) and is_plain(paper))
        self.assertTrue(stages_as_written(code, entries, stages, paper))
        self.assertIs(stages_hold(code, entries, stages, paper), True)
        words = [stage[0] for stage in stages]
        self.assertEqual(words[:2], ["given", "share"])
        self.assertEqual(words[1::2], ["share"] * (len(words) // 2))
        self.assertLessEqual(set(words[2::2]), {"put in", "cut"})
        last, moved = Code(stages[-1][1]), stages[-1][2]
        self.assertIs(is_short(last, moved), True)
        self.assertLessEqual(len(last), len(code))
        for old, new in zip(entries, moved):
            self.assertIs(alike(code, (old,), last, (new,)), True)
        return words

    def test_small_ones(self):
        self.assertEqual(shortened(SMALL), (("given", (BACK,), (0,)), ("share", (BACK,), (0,))))
        self.assertEqual(short_paper(SMALL), ((((), (), ()),),))
        self.assertEqual(shortened(code=SMALL, entries=(0, 0))[1][2], (0, 0))
        self.assertEqual(self.assert_stages(CUT_CODE, (0,)), ["given", "share", "cut", "share"])
        self.assertEqual(self.assert_stages(PUT_CODE, (0,)), ["given", "share", "put in", "share"])
        self.assertEqual(shortened(PUT_CODE), shortened(PUT_CODE, (0,)))
        self.assertEqual(short_paper(code=PUT_CODE, entries=(0,)), short_paper(PUT_CODE))

    def test_stages_are_made_of_those_ahead(self):
        one, two, three, four = shortened(CUT_CODE)
        shared_code = Code(two[1])
        self.assertEqual((Code(two[1]), two[2]), shared(CUT_CODE, (0,)))
        self.assertEqual(best_cut(shared_code, two[2]), best_as_written(shared_code, two[2]))
        self.assertEqual((Code(three[1]), three[2]), cut_out(shared_code, two[2], best_cut(shared_code, two[2])))
        self.assertEqual((Code(four[1]), four[2]), shared(Code(three[1]), three[2]))
        one, two, three, four = shortened(PUT_CODE)
        shared_code = Code(two[1])
        made = [put_in(shared_code, two[2], place) for place in range(len(shared_code))
                if can_put_in(shared_code, two[2], place)]
        self.assertIn((Code(three[1]), three[2]), made)

    def test_random_codes(self):
        source = seeded(120)
        seen = {}
        for turn in range(132):
            code = any_code(source, turn)
            for entries in ((0,), random_entries(source, code)):
                for word in self.assert_stages(code, entries):
                    seen[word] = seen.get(word, 0) + 1
        self.assertGreater(seen["cut"], 30)
        self.assertGreater(seen["put in"], 5)

    def test_keys_for_each_stage_and_entry(self):
        entries = (0, 4, 12, 16)
        stages, paper = shortened(CUT_CODE, entries), short_paper(CUT_CODE, entries)
        self.assertEqual(len(paper), len(stages) - 1)
        for at, keys in enumerate(paper):
            self.assertEqual(len(keys), 4)
            one, other = Code(stages[at][1]), Code(stages[at + 1][1])
            for number, key in enumerate(keys):
                left, right = (stages[at][2][number],), (stages[at + 1][2][number],)
                self.assertIs(key_holds(one, left, other, right, key), True)
                self.assertIs(key_holds(one, left, other, right, key_of(one, left, other, right)), True)

    def test_near_the_bounds(self):
        source = seeded(121)
        codes = codes_near_the_bounds() + [repeated_code(source, 32, "ab") for _ in range(20)]
        codes += [Code([A, B] * 15 + [A, BACK]), Code(([A, B, C, TESTED] * 7 + [D, D, D, BACK]))]
        for code in codes:
            self.assert_stages(code, (0,))
            self.assert_stages(code, (len(code) - 1, 5, 1, 0))

    def test_errors(self):
        for value in [(), (0,) * 5, (17,), (True,), [0], None, 0, ((0,),), SMALL, (0, [0])]:
            for call in (shortened, is_short, short_paper):
                self.assertIs(caught(self, InvalidEntries, call, CUT_CODE, value).value, value)
        for value in ANY_VALUES:
            if value != (0,):
                self.assertIs(caught(self, InvalidEntries, shortened, SMALL, value).value, value)


class IsShortTest(unittest.TestCase):
    def test_each_reason_alone(self):
        self.assertIs(is_short(Code([A, B, BACK])), True)
        self.assertIs(is_short(code=Code([A, B, BACK]), entries=(0,)), True)
        twins = Code([("ask", "t", (3,)), A, BACK, A, BACK])
        self.assertIs(is_short(twins), False)
        # shared, but with a cut that saves a line
        piece = shared(CUT_CODE, (0,))
        self.assertIs(is_shared(*piece), True)
        self.assertFalse(any(can_put_in(*piece, place) for place in range(len(piece[0]))))
        self.assertIs(is_short(*piece), False)
        called = shared(PUT_CODE, (0,))
        self.assertIs(is_shared(*called), True)
        self.assertIsNone(best_cut(*called))
        self.assertIs(is_short(*called), False)
        self.assertIs(is_short(PUT_CODE.take(7), (0, 4)), True)

    def test_as_written(self):
        source = seeded(122)
        seen = {True: 0, False: 0}
        for turn in range(200):
            code = any_code(source, turn)
            entries = random_entries(source, code)
            for _, lines, moved in shortened(code, entries):
                found = is_short(Code(lines), moved)
                self.assertIs(found, is_short_as_written(Code(lines), moved))
                seen[found] += 1
        self.assertGreater(min(seen.values()), 100)


class StagesHoldTest(unittest.TestCase):
    def test_stages_of_ones_own_making(self):
        code = PUT_CODE
        stages, paper = shortened(code), short_paper(code)

        def holds(*others):
            keys = [keys_between(others[at], others[at + 1]) for at in range(len(others) - 1)]
            found = stages_hold(code, (0,), others, tuple(keys))
            self.assertIs(found, stages_as_written(code, (0,), others, tuple(keys)))
            return found

        given, share, put, last = stages
        self.assertIs(holds(*stages), True)
        self.assertIs(holds(given, share), False)
        self.assertIs(holds(given, share, put), False)
        self.assertIs(holds(given), False)
        self.assertIs(holds(given, last), True)
        self.assertIs(holds(given, put, last), False)
        self.assertIs(holds(given, share, last), False)
        self.assertIs(holds(given, share, share, put, last), False)
        self.assertIs(holds(given, share, put, put, last), False)
        self.assertIs(holds(given, share, put, last, last), False)
        self.assertIs(holds(given, given, share, put, last), False)
        self.assertIs(holds(given, share, ("cut", *put[1:]), last), False)
        self.assertIs(holds(given, share, ("share", *put[1:]), last), False)
        self.assertIs(holds(given, share, put, ("put in", *last[1:])), False)
        self.assertIs(holds(("share", *given[1:]), share, put, last), False)
        self.assertIs(holds(share, put, last), False)
        self.assertIs(holds(given, share, put, ("share", *put[1:])), put[1] == last[1])
        unshared = ("share", code.lines + (BACK,), (0,))
        self.assertIs(holds(given, unshared), False)
        self.assertIs(stages_hold(code, (0,), (), ()), False)
        self.assertIs(stages_hold(code, (0,), stages[:1], ()), False)
        self.assertIs(stages_hold(code, (0,), stages, paper[:-1]), False)
        self.assertIs(stages_hold(code, (0,), stages, paper + paper[-1:]), False)
        self.assertIs(stages_hold(code=code, entries=(0,), stages=stages, paper=paper), True)

    def test_a_share_that_is_not_shared_or_longer(self):
        code = Code([A, B, BACK])
        given = ("given", code.lines, (0,))
        for lines, expected in (((A, B, BACK), True), ((A, ("go", 2), B, BACK), False), ((A, B, BACK, BACK), False),
                                ((BACK, A, B, BACK), False), ((("go", 1), A, B, BACK), False)):
            entry = (lines.index(A),)
            key = key_of(code, (0,), Code(lines), entry)
            self.assertIs(stages_hold(code, (0,), (given, ("share", lines, entry)), ((key,),)), expected)
        other = Code([A, A, BACK])
        key = key_of(code, (0,), code, (0,))
        self.assertIs(stages_hold(code, (0,), (given, ("share", other.lines, (0,))), ((key,),)), False)

    def test_a_share_that_is_longer(self):
        # the code with its pieces called is given; the one with all of them written out is shared, too
        longer = shared(CUT_CODE, (0,))
        code, entries = shared(*cut_out(*longer, best_cut(*longer)))
        given = ("given", code.lines, entries)
        stages = (given, *shortened(*longer)[1:])
        paper = tuple(keys_between(stages[at], stages[at + 1]) for at in range(len(stages) - 1))
        self.assertGreater(len(stages[1][1]), len(code))
        self.assertFalse(share_faults(Code(stages[1][1]), stages[1][2]))
        self.assertIs(stages_hold(code, entries, stages, paper), False)
        stages = (("given", longer[0].lines, longer[1]), *stages[1:])
        paper = tuple(keys_between(stages[at], stages[at + 1]) for at in range(len(stages) - 1))
        self.assertIs(stages_hold(*longer, stages, paper), True)

    def test_a_share_between_that_is_not_shared(self):
        code = Code([("ask", "s", (4,)), ("call", 7), D, BACK, ("do", "e"), D, BACK, ("ask", "t", (9,)), B, BACK])
        self.assertEqual(share_faults(code, (0,)), ["twins"])
        self.assert_last_alone_is_wrong(code, ("share", code.lines, (0,)), code, (0,))

    def assert_last_alone_is_wrong(self, code, share, one, entries):
        """A share of the given code that is none, followed by right stages of it."""
        put, moved = put_in(one, entries, 1)
        made, there = shared(put, moved)
        self.assertTrue(is_short_as_written(made, there))
        stages = (("given", code.lines, (0,)), share, ("put in", put.lines, moved), ("share", made.lines, there))
        paper = tuple(keys_between(stages[at], stages[at + 1]) for at in range(3))
        self.assertTrue(all(paper))
        self.assertIs(stages_hold(code, (0,), stages, paper), False)
        right = shortened(code)
        self.assertIs(stages_hold(code, (0,), right, short_paper(code)), True)

    def test_put_in_stages_with_other_lines_or_entries(self):
        code, entries = Code([A, ("call", 4), D, BACK, ("ask", "t", (6,)), B, BACK]), (0, 3)
        given, share, put, last = shortened(code, entries)
        self.assertEqual(put[0], "put in")
        others = [("put in", put[1] + (BACK,), put[2]), ("put in", code.lines, entries), ("put in", *last[1:]),
                  ("put in", (("go", 1), *Code(put[1]).put(0, ("go", 1)).lines[1:]), tuple(at + 1 for at in put[2]))]
        for other in others:
            stages = (given, share, other, last)
            paper = tuple(keys_between(stages[at], stages[at + 1]) for at in range(3))
            self.assertTrue(all(paper))
            same = other[1:] == put[1:]
            self.assertIs(stages_hold(code, entries, stages, paper), same)

    def test_put_in_stages_with_another_back_line_as_an_entry(self):
        code, entries = Code([A, ("call", 5), ("ask", "s", (4,)), D, BACK, ("ask", "t", (7,)), B, BACK,
                              ("ask", "u", (10,)), C, BACK]), (0, 8, 4)
        given, share, put, last = shortened(code, entries)
        backs = [at for at, line in enumerate(put[1]) if line == BACK]
        self.assertEqual((put[0], len(backs)), ("put in", 2))
        for back in backs:
            stages = (given, share, (*put[:2], (*put[2][:2], back)), last)
            paper = tuple(keys_between(stages[at], stages[at + 1]) for at in range(3))
            self.assertTrue(all(paper))
            self.assertIs(stages_hold(code, entries, stages, paper), back == put[2][2])

    def test_a_cut_that_is_not_the_best(self):
        given, share, cut, last = shortened(CUT_CODE)
        code, entries = Code(share[1]), share[2]
        best = best_cut(code, entries)
        other = cut_out(code, entries, (best[0], best[1][:-1], best[2]))
        again = shared(*other)
        stages = (given, share, ("cut", other[0].lines, other[1]), ("share", again[0].lines, again[1]))
        paper = tuple((keys_between(stages[at], stages[at + 1])) for at in range(3))
        self.assertIs(stages_hold(CUT_CODE, (0,), stages, paper), False)

    def test_any_place_that_can_be_put_in(self):
        # two procedures that are called once each
        code = Code([A, ("call", 6), B, ("call", 9), C, BACK, ("ask", "t", (8,)), D, BACK,
                     ("ask", "s", (11,)), ("do", "e"), BACK])
        one, entries = shared(code, (0,))
        given, share = ("given", code.lines, (0,)), ("share", one.lines, entries)
        ways = [place for place in range(len(one)) if can_put_in(one, entries, place)]
        self.assertEqual(len(ways), 2)
        for way in ways:
            stages = [given, share]
            made = put_in(one, entries, way)
            while made:
                stages.append(("put in", made[0].lines, made[1]))
                after = shared(*made)
                stages.append(("share", after[0].lines, after[1]))
                places = [place for place in range(len(after[0])) if can_put_in(*after, place)]
                made = put_in(*after, places[0]) if places else None
            paper = tuple(keys_between(stages[at], stages[at + 1]) for at in range(len(stages) - 1))
            self.assertIs(stages_hold(code, (0,), tuple(stages), paper), True)

    def test_changed_at_one_place(self):
        source = seeded(123)
        held = 0
        for turn in range(60):
            code = any_code(source, turn)
            entries = random_entries(source, code)
            stages, paper = shortened(code, entries), short_paper(code, entries)
            for _ in range(8):
                value = changed(source, stages)
                holds = stages_hold(code, entries, value, paper)
                self.assertIs(holds, stages_as_written(code, entries, value, paper), value)
                other = changed(source, paper)
                found = stages_hold(code, entries, stages, other)
                self.assertIs(found, stages_as_written(code, entries, stages, other), other)
                held += found
        self.assertGreater(held, 10)

    def test_a_list_or_a_bool_anywhere(self):
        for code, entries in ((PUT_CODE, (0,)), (SMALL, (0, 0))):
            stages, paper = shortened(code, entries), short_paper(code, entries)
            for value in with_odd_parts(stages):
                self.assertIs(stages_hold(code, entries, value, paper), False)
            for value in with_odd_parts(paper):
                self.assertIs(stages_hold(code, entries, stages, value), False)

    def test_other_entries(self):
        source = seeded(124)
        stages, paper = shortened(CUT_CODE, (0, 4)), short_paper(CUT_CODE, (0, 4))
        for entries in ((0,), (4, 0), (0, 4, 4), (0, 5), (), None, [0, 4], (False, 4), (0, 17), ((0, 4),)):
            self.assertIs(stages_hold(CUT_CODE, entries, stages, paper), False)
        self.assertIs(stages_hold(CUT_CODE, (0, 4), stages, paper), True)
        self.assertIs(stages_hold(PUT_CODE, (0, 4), stages, paper), False)
        for _ in range(20):
            other = random_entries(source, CUT_CODE)
            self.assertIs(stages_hold(CUT_CODE, other, shortened(CUT_CODE, other), paper), other == (0, 4))

    def test_any_value(self):
        stages, paper = shortened(PUT_CODE), short_paper(PUT_CODE)
        paths = [(0,), (1,), (3,), (0, 0), (1, 0), (1, 1), (1, 2), (1, 1, 0), (2, 1, 0, 0), (1, 2, 0), (3, 1, 1)]
        for value in ANY_VALUES:
            if value != (0,):
                self.assertIs(stages_hold(PUT_CODE, value, stages, paper), False)
            self.assertIs(stages_hold(PUT_CODE, (0,), value, paper), False)
            self.assertIs(stages_hold(PUT_CODE, (0,), stages, value), False)
            for path in paths:
                odd = with_part(stages, path, value)
                same = repr(odd) == repr(stages)
                self.assertIs(stages_hold(PUT_CODE, (0,), odd, paper), same)
            for path in ((0,), (0, 0), (0, 0, 0), (2, 0, 1)):
                self.assertIs(stages_hold(PUT_CODE, (0,), stages, with_part(paper, path, value)), False)

    def test_many_stages(self):
        given, share, put, last = shortened(PUT_CODE)
        key = short_paper(PUT_CODE)[1]
        self.assertIs(stages_hold(PUT_CODE, (0,), (given,) + (share, put) * 400, (key,) * 800), False)
        self.assertIs(stages_hold(PUT_CODE, (0,), (given,) + (last,) * 800, (key,) * 800), False)


def keys_between(one, other):
    try:
        pairs = zip(one[2], other[2])
        return tuple(key_of(Code(one[1]), (old,), Code(other[1]), (new,)) for old, new in pairs)
    except TrimError:
        return ()


if __name__ == "__main__":
    unittest.main()
