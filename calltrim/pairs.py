"""Pairs of numbers of a system, by which it is decided whether rows of numbers do the same.

A pair is (x, y), the norm of y not more than that of x. Shortest moves of y leave a rest of x. If a row that
begins with x does the same as one that begins with y, then x does the same as y with this rest behind it: the
pair stands. It stands if, for each answer, the row of x and the row of y with the rest behind it come together
by pairs that stand. Which pairs they need does not depend on which ones stand.
"""

from calltrim.striking import struck_out
from calltrim.systems import least_answer, level_of


def ordered_pair(system, one, other):
    """The pair of two numbers, that of greater norm first."""
    if (system.norms[one], one) < (system.norms[other], other):
        return other, one
    return one, other


def found_rest(system, pair):
    """What shortest moves of the second leave of the first; None if they do not run alike so far."""
    mine, theirs = [pair[0]], [pair[1]]
    while theirs:
        one, other = mine.pop(), theirs.pop()
        answer = least_answer(system, other)
        # each of the moves must lower both levels, or too much would be left of the first
        if system.events[one] != system.events[other]:
            return None
        if level_of(system, system.rows[one][answer]) != system.norms[one] - 1:
            return None
        mine.extend(system.rows[one][answer][::-1])
        theirs.extend(system.rows[other][answer][::-1])
    return tuple(mine[::-1])


class Pairs:
    """The pairs of a system, looked at when they are needed; what is once settled is kept."""

    def __init__(self, system):
        self.system = system
        self.rests = {}
        self.settled = {}
        self.reasons = {}

    def rest_of(self, pair):
        if pair not in self.rests:
            self.rests[pair] = found_rest(self.system, pair)
        return self.rests[pair]

    def rows_behind(self, pair, answer):
        """The two rows that do the same behind the answer if the pair stands; it must have a rest."""
        one, other = pair
        return self.system.rows[one][answer], self.system.rows[other][answer] + self.rest_of(pair)

    def steps(self, one, other):
        """The pairs by which two rows of one norm come together, equal numbers too, up to one without a rest."""
        mine, theirs = list(one[::-1]), list(other[::-1])
        pairs = []
        while mine and theirs:
            left, right = mine.pop(), theirs.pop()
            pair = ordered_pair(self.system, left, right)
            pairs.append(pair)
            if left == right:
                continue
            rest = self.rest_of(pair)
            if rest is None:
                break
            longer = mine if pair[0] == left else theirs
            longer.extend(rest[::-1])
        return pairs

    def needs_of(self, pair):
        """The pairs that this one needs to stand; None if it cannot stand."""
        if self.rest_of(pair) is None:
            return None
        needed = []
        for answer in range(len(self.system.rows[pair[0]])):
            one, other = self.rows_behind(pair, answer)
            if level_of(self.system, one) != level_of(self.system, other):
                return None
            needed.extend([step for step in self.steps(one, other) if step[0] != step[1]])
        return needed

    def settle(self, pairs):
        """Finds out which of these pairs stand, and all others that they need."""
        needs = {}
        fresh = [pair for pair in pairs if pair[0] != pair[1]]
        while fresh:
            pair = fresh.pop()
            if pair in needs or pair in self.settled:
                continue
            needs[pair] = self.needs_of(pair)
            if needs[pair] is not None:
                fresh.extend(needs[pair])
        struck = struck_out(needs, self.reasons)
        for pair in needs:
            self.settled[pair] = True
            if pair in struck:
                self.reasons[pair] = struck[pair]

    def first_struck(self, one, other):
        """The first pair that keeps two rows of one norm from coming together; None if none does."""
        pairs = self.steps(one, other)
        self.settle(pairs)
        for pair in pairs:
            if pair in self.reasons:
                return pair
        return None

    def rows_alike(self, one, other):
        if one == other:
            return True
        if level_of(self.system, one) != level_of(self.system, other):
            return False
        return self.first_struck(one, other) is None
