"""Prime parts: how the runs of numbers of a system are divided at their joints.

Each number stands for its part above its greatest joint below its norm; this part is prime. What is left there
begins with a number again, so every row of numbers is a row of prime parts.
"""

from calltrim.pairs import Pairs
from calltrim.striking import struck_out
from calltrim.systems import least_answer, row_of, spread_row, system_of


def reached_numbers(system, row):
    """All numbers that runs of the row come to, in the order in which they are found."""
    found = {}
    fresh = list(row[::-1])
    while fresh:
        number = fresh.pop()
        if number not in found:
            found[number] = True
            fresh.extend(spread_row(system.rows[number])[::-1])
    return list(found)


def rows_by_level(system, number):
    """What shortest moves leave of a number, by the level that they first reach."""
    row = (number,)
    rows = [row]
    while row:
        answer = least_answer(system, row[0])
        row = system.rows[row[0]][answer] + row[1:]
        rows.append(row)
    return tuple(rows[::-1])


class Primes:
    """The prime parts of a row of numbers and of all that it comes to."""

    def __init__(self, system, row):
        self.system = system
        self.pairs = Pairs(system)
        self.numbers = sorted(reached_numbers(system, row))
        self.left = {number: rows_by_level(system, number) for number in self.numbers}
        self.reasons = self.struck_joints()
        self.cuts = {number: self.greatest_joint(number) for number in self.numbers}
        self.parts = self.divided_numbers()
        self.rows = {number: self.part_rows(number) for number in self.numbers}
        self.kinds = self.sorted_kinds()

    def cut_row(self, row, level):
        """What is left of a row at a level, and the number with its level that is cut there (None if none is)."""
        at, behind = len(row), 0
        while behind < level:
            at = at - 1
            behind = behind + self.system.norms[row[at]]
        if behind == level:
            return row[at:], None
        number = row[at]
        inner = level - behind + self.system.norms[number]
        return self.left[number][inner] + row[at + 1:], (number, inner)

    def joint_needs(self, number, level):
        """The joints that a joint of number at level needs; None if there is none in any case."""
        needed = []
        for row in self.system.rows[number]:
            rest, inner = self.cut_row(row, level)
            if not self.pairs.rows_alike(rest, self.left[number][level]):
                return None
            if inner is not None:
                needed.append(inner)
        return needed

    def struck_joints(self):
        """The pairs (number, level) that are no joints, with the reasons of struck_out."""
        needs = {}
        for number in self.numbers:
            for level in range(1, self.system.norms[number]):
                needs[(number, level)] = self.joint_needs(number, level)
        return struck_out(needs, {})

    def greatest_joint(self, number):
        level = self.system.norms[number] - 1
        while level > 0 and (number, level) in self.reasons:
            level = level - 1
        return level

    def divided_numbers(self):
        """The prime parts of each number, those at the front first."""
        parts = {}
        # what is left at the greatest joint has less norm, so its parts are known
        for _, number in sorted([(self.system.norms[number], number) for number in self.numbers]):
            rest = self.left[number][self.cuts[number]]
            parts[number] = (number,) + spread_row([parts[member] for member in rest])
        return parts

    def divided(self, row):
        """The prime parts of a row of numbers; the part of a number has its name."""
        return spread_row([self.parts[number] for number in row])

    def part_norm(self, number):
        return self.system.norms[number] - self.cuts[number]

    def part_rows(self, number):
        """The rows of prime parts that come in place of the prime part of a number."""
        rows = []
        for row in self.system.rows[number]:
            parts = self.divided(row)
            at, behind = len(parts), 0
            while behind < self.cuts[number]:
                at = at - 1
                behind = behind + self.part_norm(parts[at])
            rows.append(parts[:at])
        return tuple(rows)

    def sorted_kinds(self):
        """A kind for each prime part; parts of one kind do the same.

        Rows of prime parts do the same only if they do so member by member, so comparing kinds is enough.
        """
        kinds = numbered_signs({number: self.system.events[number] for number in self.numbers})
        many = 0
        while many < count_kinds(kinds):
            many = count_kinds(kinds)
            kinds = numbered_signs({number: (kinds[number], self.kind_rows(number, kinds)) for number in kinds})
        return kinds

    def kind_rows(self, number, kinds):
        return tuple([tuple([kinds[part] for part in row]) for row in self.rows[number]])

    def form_and_table(self, row):
        """The prime form of a row of numbers, and a table for it of all numbers that the row comes to."""
        order = []
        places = {}
        start = self.placed_row(self.divided(row), places, order)
        rules = []
        while len(rules) < len(order):
            number = order[len(rules)]
            rows = tuple([self.placed_row(parts, places, order) for parts in self.rows[number]])
            rules.append((self.system.events[number][0], rows))
        met = sorted(reached_numbers(self.system, row))
        table = tuple([(number, self.placed_row(self.parts[number], places, order)) for number in met])
        return (start, tuple(rules)), table

    def placed_row(self, parts, places, order):
        """The row of form numbers of prime parts; a kind gets the next number when it comes first."""
        for part in parts:
            if self.kinds[part] not in places:
                places[self.kinds[part]] = len(order)
                order.append(part)
        return tuple([places[self.kinds[part]] for part in parts])


def numbered_signs(signs):
    """A number for the sign of each key, equal ones for equal signs."""
    found = {}
    for key in signs:
        found.setdefault(signs[key], len(found))
    return {key: found[signs[key]] for key in signs}


def count_kinds(kinds):
    return len(set(list(kinds.values())))


def formed(code, row):
    """The prime form of a row of places, and a table for it of all event places that the row comes to."""
    system, spread = system_of(code)
    numbers = row_of(spread, row)
    return Primes(system, numbers).form_and_table(numbers)


def signs_of(code):
    """A row for each place, equal ones exactly for places that do the same; () for places of norm 0."""
    system, spread = system_of(code)
    primes = Primes(system, spread_row(spread))
    return [tuple([primes.kinds[part] for part in primes.divided(row)]) for row in spread]
