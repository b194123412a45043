import unittest

from calltrim.codes import Code
from calltrim.errors import InvalidMoves, InvalidNumber
from calltrim.runs import returns, run
from calltrim.stacks import depth, depth_holds, depth_paper, stack_run
from bounds import calls_15_deep, codes_near_the_bounds, random_long_code
from mutants import ANY_VALUES, changed, with_odd_parts, with_part
from refactored import random_pair
from support import BACK, SMALL, caught, is_plain, random_code, random_moves, seeded

DO = ("do", "a")
# t; behind answer 0 a call of itself
NEST = Code([("ask", "t", (3,)), ("call", 0), DO, BACK])
# a call with a silent rest, of a procedure that calls a back line
SILENT = Code([("call", 3), ("go", 2), BACK, DO, ("call", 6), ("go", 7), BACK, BACK])


def states_of(code, place, moves):
    """The moments of a stack run, each a tuple (place, stack, count of moves used), and whether it has returned."""
    stack, used, states = (), 0, [(place, (), 0)]
    while True:
        line = code[place]
        if line[0] in ("do", "ask"):
            if used == len(moves):
                return states, False
            leads = code.leads(place)
            place, used = leads[moves[used] % len(leads)], used + 1
        elif line[0] == "go":
            place = line[1]
        elif line[0] == "call":
            place, stack = line[1], (*stack, place + 1)
        elif not stack:
            return states, True
        else:
            place, stack = stack[-1], stack[:-1]
        states.append((place, stack, used))


def are_moves(value):
    return type(value) is tuple and all(type(move) is int and move >= 0 for move in value)


def depth_as_written(code, place, many, paper):
    if type(place) is not int or not 0 <= place < len(code) or type(paper) is not tuple or len(paper) != 2:
        return False
    if not are_moves(paper[0]):
        return False
    if many is None:
        return grows_as_written(code, place, *paper)
    if type(many) is not int or many < 0 or not bounds_as_written(code, place, many, paper[1]):
        return False
    states, _ = states_of(code, place, paper[0])
    return any(len(stack) == many for _, stack, _ in states)


def bounds_as_written(code, place, many, numbers):
    if type(numbers) is not tuple or len(numbers) != len(code):
        return False
    if not all(type(number) is int and number >= -1 for number in numbers) or numbers[place] != many:
        return False
    for at, number in enumerate(numbers):
        line = code[at]
        if number == -1:
            continue
        behind = {"go": line[1:2], "back": ()}.get(line[0], (at + 1,)) + (line[2] if line[0] == "ask" else ())
        if any(numbers[follower] == -1 or numbers[follower] > number for follower in behind):
            return False
        if line[0] == "call" and not -1 < numbers[line[1]] < number:
            return False
    return True


def grows_as_written(code, place, moves, more):
    if not are_moves(more):
        return False
    states, back = states_of(code, place, moves)
    at, stack, _ = states[-1]
    if back:
        return False
    states, back = states_of(code, place, moves + more)
    late, grown, _ = states[-1]
    if back or late != at or len(grown) <= len(stack) or grown[:len(stack)] != stack:
        return False
    return all(len(now) >= len(stack) for _, now, used in states if used > len(moves))


class StackRunTest(unittest.TestCase):
    def test_calls_and_returns(self):
        self.assertEqual(stack_run(NEST, 0, ()), (0, ()))
        self.assertEqual(stack_run(NEST, 0, (0,)), (0, (2,)))
        self.assertEqual(stack_run(NEST, 0, (0, 2, 4)), (0, (2, 2, 2)))
        self.assertEqual(stack_run(NEST, 0, (0, 0, 1)), (2, (2,)))
        self.assertEqual(stack_run(NEST, 0, (0, 0, 1, 9)), (2, ()))
        self.assertEqual(stack_run(NEST, 0, (0, 0, 1, 9, 9)), ())
        self.assertEqual(stack_run(code=NEST, place=0, moves=(1,)), ())
        self.assertEqual(stack_run(NEST, 0, (1, 0, 0)), ())
        self.assertEqual(stack_run(NEST, 3, ()), ())
        self.assertEqual(stack_run(NEST, 1, ()), (0, (2,)))

    def test_places_of_norm_0_stay(self):
        self.assertEqual(stack_run(SILENT, 0, ()), (3, (1,)))
        self.assertEqual(stack_run(SILENT, 0, (0,)), ())
        tail = Code([("call", 5), ("call", 4), BACK, ("go", 0), DO, BACK])
        self.assertEqual(stack_run(tail, 3, ()), (4, (2,)))
        deep = Code([("call", 2), BACK, ("call", 4), BACK, DO, ("call", 7), BACK, DO, BACK])
        self.assertEqual(stack_run(deep, 0, ()), (4, (1, 3)))
        # the silent lines behind the last number are run, too
        self.assertEqual(stack_run(deep, 0, (0,)), (7, (1, 3, 6)))
        self.assertEqual(stack_run(deep, 0, (0, 0)), ())

    def test_as_written(self):
        source = seeded(80)
        for _ in range(400):
            code = random_code(source, source.randrange(1, 33), "ab")
            place, moves = source.randrange(len(code)), random_moves(source, 20)
            states, back = states_of(code, place, moves)
            found = stack_run(code, place, moves)
            self.assertEqual(found, () if back else states[-1][:2])
            self.assertTrue(is_plain(found))
            self.assertEqual(found == (), returns(code, (place,), moves))
            if found and len(found[1]) < 6:
                word = run(code, (found[0],), ())
                self.assertEqual(run(code, (place,), moves)[-1:], word)

    def test_errors_in_their_order(self):
        for value in [-1, 4, True, False, None, "0", (0,), [0], SMALL]:
            self.assertIs(caught(self, InvalidNumber, stack_run, NEST, value, None).value, value)
        for value in ([], [0], (True,), (-1,), None, 0, ("0",), ((),)):
            self.assertIs(caught(self, InvalidMoves, stack_run, NEST, 0, value).value, value)
        for value in ANY_VALUES:
            if value not in (0, 1):
                self.assertIs(caught(self, InvalidNumber, stack_run, NEST, value, ()).value, value)


class DepthTest(unittest.TestCase):
    def assert_depth(self, code, place):
        many, paper = depth(code, place), depth_paper(code, place)
        self.assertIs(depth_holds(code, place, many, paper), True)
        self.assertTrue(depth_as_written(code, place, many, paper))
        self.assertTrue(is_plain(paper))
        for other in [None, 0, 1, 2] + ([] if many is None else [many - 1, many + 1]):
            if other != many:
                self.assertIs(depth_holds(code, place, other, paper), False)
        return many

    def test_nothing_called(self):
        code = Code([("ask", "t", (0, 2)), DO, BACK, ("call", 0), BACK])
        self.assertEqual([self.assert_depth(code, place) for place in range(5)], [0, 0, 0, 1, 0])
        self.assertEqual(depth_paper(SMALL, 0), ((), (0,)))
        self.assertEqual(depth_paper(code, 1), ((), (-1, 0, 0, -1, -1)))

    def test_calls_forward(self):
        code = Code([("call", 3), ("call", 6), BACK, DO, ("call", 6), BACK, ("ask", "t", (8,)), BACK,
                     ("call", 10), BACK, DO, BACK])
        found = [self.assert_depth(code, place) for place in range(12)]
        self.assertEqual(found, [3, 2, 0, 2, 2, 0, 1, 0, 1, 0, 0, 0])
        stairs = calls_15_deep()
        found = [self.assert_depth(stairs, place) for place in range(32)]
        self.assertEqual(found[0::2], list(range(15, -1, -1)))
        self.assertEqual(found[1::2], [0] * 16)

    def test_behind_a_call_that_takes_moves(self):
        code = Code([("call", 4), ("ask", "t", (3,)), BACK, ("call", 7), ("ask", "s", (6,)), ("go", 4), BACK, DO, BACK])
        self.assertEqual(self.assert_depth(code, 0), 1)
        self.assertEqual(self.assert_depth(code, 1), 1)
        deep = Code([("call", 4), ("ask", "t", (3,)), BACK, ("call", 7), ("ask", "s", (6,)), ("go", 4), BACK,
                     ("call", 9), BACK, DO, BACK])
        self.assertEqual(self.assert_depth(deep, 0), 2)
        self.assertEqual(depth_paper(deep, 0)[0], (1, 1))

    def test_calls_of_themselves(self):
        self.assertIsNone(self.assert_depth(NEST, 0))
        self.assertIsNone(self.assert_depth(NEST, 1))
        self.assertEqual(self.assert_depth(NEST, 2), 0)
        for others in (1, 2, 3):
            lines = []
            for at in range(others):
                lines += [("ask", "t", (4 * at + 3,)), ("call", 4 * at + 4), DO, BACK]
            code = Code(lines + [("ask", "t", (4 * others + 3,)), ("call", 0), DO, BACK])
            for place in range(len(code)):
                self.assertEqual(self.assert_depth(code, place), None if place % 4 < 2 else 0)

    def test_by_calls_behind_calls(self):
        # the call of itself comes behind a call that returns; its own rest is silent
        code = Code([("ask", "t", (4,)), ("call", 5), ("call", 0), BACK, BACK, ("ask", "s", (5,)), BACK])
        self.assertIsNone(self.assert_depth(code, 0))
        self.assertEqual(self.assert_depth(code, 5), 0)
        jump = Code([("call", 3), ("go", 3), BACK, ("ask", "t", (0,)), BACK])
        self.assertIsNone(self.assert_depth(jump, 1))

    def test_random_codes(self):
        source = seeded(81)
        seen = {}
        for turn in range(400):
            code = [random_code(source, source.randrange(1, 25), "ab"), random_pair(source)[1],
                    random_long_code(source)][turn % 3]
            many = self.assert_depth(code, source.randrange(len(code)))
            seen[many] = seen.get(many, 0) + 1
        self.assertGreater(min(seen[many] for many in (None, 0, 1, 2)), 10)

    def test_not_more_than_any_run(self):
        source = seeded(82)
        for _ in range(300):
            code = random_code(source, source.randrange(1, 20), "a")
            place = source.randrange(len(code))
            many = depth(code, place)
            for _ in range(5):
                states, _ = states_of(code, place, random_moves(source, 30))
                self.assertTrue(many is None or all(len(stack) <= many for _, stack, _ in states))

    def test_near_the_bounds(self):
        for code in codes_near_the_bounds():
            for place in range(0, len(code), 5):
                self.assert_depth(code, place)

    def test_errors(self):
        for value in [-1, 4, True, False, None, "0", (0,), [0], SMALL]:
            for call in (depth, depth_paper):
                self.assertIs(caught(self, InvalidNumber, call, NEST, value).value, value)


class DepthHoldsTest(unittest.TestCase):
    def test_changed_at_one_place(self):
        source = seeded(83)
        held = {True: 0, False: 0}
        for turn in range(200):
            code = [random_code(source, source.randrange(1, 25), "ab"), random_pair(source)[1],
                    random_long_code(source)][turn % 3]
            place = source.randrange(len(code))
            many, paper = depth(code, place), depth_paper(code, place)
            for _ in range(15):
                value, claim = changed(source, paper), source.choice([many, many, many, None, 0, 1, 2])
                holds = depth_holds(code, place, claim, value)
                self.assertIs(holds, depth_as_written(code, place, claim, value), value)
                self.assertTrue(claim == many or not holds)
                held[many is None] += holds
        self.assertGreater(min(held.values()), 20)

    def test_a_list_or_a_bool_anywhere(self):
        for code in (NEST, SILENT, calls_15_deep()):
            for place in (0, 1, len(code) - 1):
                for value in with_odd_parts(depth_paper(code, place)):
                    self.assertIs(depth_holds(code, place, depth(code, place), value), False)

    def test_numbers(self):
        code = Code([("call", 3), DO, BACK, ("ask", "t", (5,)), BACK, BACK])
        for numbers in ((1, 0, 0, 0, 0, 0), (1, 1, 1, 0, 0, 0), (1, 1, 0, 0, 0, 0)):
            self.assertIs(depth_holds(code, 0, 1, ((), numbers)), True)
        for numbers in ((1, 0, 0, 1, 0, 0), (2, 1, 1, 1, 1, 1), (1, 0, 1, 0, 0, 0), (1, -1, 0, 0, 0, 0),
                        (1, 0, 0, 0, -1, 0), (1, 0, 0, 0, 0, -1), (1, 0, 0, -1, 0, 0), (1, 0, 0, 0, 0, 1),
                        (-1, 0, 0, 0, 0, 0), (1, 0, 0, 0, 0, -2), (1, 0, 0, 0, 0), (1, 0, 0, 0, 0, 0, 0), (), None):
            self.assertIs(depth_holds(code, 0, 1, ((), numbers)), False, numbers)
        # lines to which none comes may have any number that goes with the others, or -1
        for first in (-1, 1, 5, 10 ** 11):
            self.assertIs(depth_holds(code, 3, 0, ((), (first, 0, 0, 0, 0, 0))), True)
        self.assertIs(depth_holds(code, 3, 0, ((), (0, 0, 0, 0, 0, 0))), False)
        self.assertIs(depth_holds(code, 3, 0, ((), (-1, -1, -1, 0, 0, 0))), True)
        self.assertIs(depth_holds(code, 3, 0, ((), (-1, -1, 9, 0, 0, 0))), True)
        self.assertIs(depth_holds(code, 1, -1, ((), (-1,) * 6)), False)
        # moves that do not come to the depth
        self.assertIs(depth_holds(code, 0, 2, ((), (2, 1, 1, 1, 1, 1))), False)
        self.assertIs(depth_holds(code, 0, 1, ((0, 7, 8, 9), (1, 0, 0, 0, 0, 0))), True)

    def test_moves_that_grow(self):
        for moves, more in (((), (0,)), ((0, 0), (0, 2)), ((0, 0, 1), (0, 0)), ((0,), (0,) * 300)):
            expected = depth_as_written(NEST, 0, None, (moves, more))
            self.assertIs(depth_holds(NEST, 0, None, (moves, more)), expected)
        self.assertIs(depth_holds(NEST, 0, None, ((), (0,))), True)
        self.assertIs(depth_holds(NEST, 0, None, ((0, 0), (0, 2))), True)
        self.assertIs(depth_holds(NEST, 0, None, ((), ())), False)
        self.assertIs(depth_holds(NEST, 0, None, ((), (0, 1))), False)
        self.assertIs(depth_holds(NEST, 0, None, ((1,), (0,))), False)
        self.assertIs(depth_holds(NEST, 0, None, ((), (1, 0, 0, 0))), False)

    def test_a_stack_that_was_lower_between(self):
        # behind a back line as much is called again: the stack does not grow of itself
        code = Code([("call", 5), ("call", 5), ("call", 5), DO, BACK, ("ask", "t", (8,)), ("call", 5), BACK, BACK])
        self.assertIs(depth_holds(code, 0, None, ((), (0,))), True)
        stays = ((1,), (0, 0, 1))
        self.assertEqual(stack_run(code, 0, stays[0]), (5, (2,)))
        self.assertEqual(stack_run(code, 0, (1, 0, 0, 1)), (5, (3,)))
        self.assertIs(depth_holds(code, 0, None, stays), False)
        self.assertIs(depth_holds(code, 0, None, ((0,), (1, 0, 0))), False)
        self.assertEqual(stack_run(code, 0, (0, 1, 0, 0)), (5, (2, 7, 7)))

    def test_any_value(self):
        many, paper = depth(NEST, 2), depth_paper(NEST, 2)
        for value in ANY_VALUES:
            if value != 2 or isinstance(value, bool):
                self.assertIs(depth_holds(NEST, value, many, paper), False)
            if not (value == 0 and isinstance(value, int)) or isinstance(value, bool):
                self.assertIs(depth_holds(NEST, 2, value, paper), False)
            self.assertIs(depth_holds(code=NEST, place=2, many=0, paper=value), False)
            self.assertIs(depth_holds(NEST, 0, None, value), False)
            for path in ((0,), (1,), (0, 0), (1, 0)):
                for place, claim in ((0, None), (2, 0)):
                    whole = ((0,), (0,)) if claim is None else ((0,), paper[1])
                    odd = with_part(whole, path, value)
                    holds = depth_holds(NEST, place, claim, odd)
                    self.assertIn(holds, (True, False))
                    if len(repr(odd)) < 3000:
                        self.assertIs(holds, depth_as_written(NEST, place, claim, odd))
        for place in (4, -1, True, [2], (2,), None):
            self.assertIs(depth_holds(NEST, place, 0, paper), False)


if __name__ == "__main__":
    unittest.main()
