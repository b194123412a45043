"""The helpers below runs, sameness and prime forms, where the functions of the interface show little of them."""

import unittest

from calltrim.partings import end_behind
from calltrim.striking import struck_out
from calltrim.systems import least_moves, level_of, row_left, row_of, system_of, system_of_two, told
from reference import CodeRules, after, level_of as level_as_written, run_of
from refactored import random_pair
from support import random_code, random_moves, random_row, seeded


class SystemsTest(unittest.TestCase):
    def test_rows_left(self):
        source = seeded(50)
        for _ in range(300):
            code = random_pair(source)[0]
            system, spread = system_of(code)
            places, moves = random_row(source, code, 6), random_moves(source, 20)
            rules, row = CodeRules(code), places
            row = rules.front(row)
            for move in moves:
                if row:
                    row = after(rules, row, move % rules.event(row[0])[1])
            left = row_left(system, row_of(spread, places), moves)
            self.assertEqual(left, row_of(spread, row))
            self.assertEqual(level_of(system, left), level_as_written(rules, row))

    def test_two_codes_in_one_system(self):
        source = seeded(51)
        for _ in range(100):
            one, other = (random_code(source, source.randrange(1, 20)) for _ in range(2))
            system, mine, theirs = system_of_two(one, other)
            for code, spread in ((one, mine), (other, theirs)):
                row, moves = random_row(source, code), random_moves(source)
                numbers = row_of(spread, row)
                self.assertEqual(told(system, numbers, moves), run_of(CodeRules(code), row, moves))
                self.assertEqual(row_left(system, numbers, least_moves(system, numbers)), ())

    def test_equal_codes_share_their_numbers(self):
        code = random_code(seeded(52), 20)
        system, mine, theirs = system_of_two(code, code.put(0, ("back",)).take(0))
        self.assertEqual(mine, theirs)
        self.assertEqual(len(system.norms), 20)


    def test_moves_left_behind_a_number(self):
        source = seeded(54)
        seen = {True: 0, False: 0}
        for _ in range(300):
            code = random_pair(source)[0]
            system, spread = system_of(code)
            rules, moves = CodeRules(code), random_moves(source, 12)
            for number in spread[0]:
                used = [at for at in range(len(moves) + 1) if run_of(rules, (number,), moves[:at])[-1] == ()]
                end = end_behind(system, number, moves)
                self.assertEqual(end, moves[used[0]:] if used else None)
                seen[bool(used)] += 1
        self.assertGreater(min(seen.values()), 30)


class StrikingTest(unittest.TestCase):
    def test_nothing_is_out(self):
        self.assertEqual(struck_out({}, {}), {})
        self.assertEqual(struck_out({1: [2, 2], 2: [1], 3: []}, {}), {})

    def test_out_by_itself_and_by_others(self):
        needs = {1: [2], 2: [3], 3: None, 4: [1, 5], 5: [5], 6: [6, 4]}
        self.assertEqual(struck_out(needs, {}), {3: None, 2: 3, 1: 2, 4: 1, 6: 4})

    def test_out_by_what_was_out_before(self):
        self.assertEqual(struck_out({1: [2, 9], 2: [1], 3: [3], 4: [8, 3]}, {9: None, 7: 9}), {1: 9, 2: 1})

    def test_each_reason_was_out_earlier(self):
        source = seeded(53)
        for _ in range(200):
            needs = {}
            for node in range(12):
                needs[node] = [source.randrange(12) for _ in range(source.randrange(3))]
                if source.random() < 0.15:
                    needs[node] = None
            reasons = struck_out(needs, {})
            earlier = []
            for node, reason in reasons.items():
                self.assertTrue(reason in earlier if needs[node] is not None else reason is None)
                self.assertTrue(needs[node] is None or reason in needs[node])
                earlier.append(node)
            for node in set(needs) - set(reasons):
                self.assertFalse(set(needs[node]) & set(reasons))
