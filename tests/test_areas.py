import unittest
from itertools import permutations, product

from calltrim.areas import area, area_holds, area_paper, needed
from calltrim.errors import InvalidTables, Undefined
from mutants import ANY_VALUES, changed, with_odd_parts, with_part
from support import SMALL, caught, is_plain, seeded

NO_TABLES = [
    (), [], [(0,)], ([0],), ((),), ((0,) * 5,), ((32,),), ((-1,),), ((True,),), ((0,), (False, 1)), ((0,), None),
    ((0,), 0), (0,), ((0,),) * 32, None, 0, True, "", "a", ("a",), (("a",),), (((0,),),), SMALL, (SMALL,), ((0,), ()),
    ((0,), [1]), ((None,),), ((0, 1, 2, 33),),
]
ABC = ((0, 1, 2), (2, 3), (1, 2, 2))


def stands(table, row):
    return any(row[at:at + len(table)] == table for at in range(len(row)))


def needed_as_written(tables):
    found = []
    for table in tables:
        if not any(stands(table, other) and other != table for other in tables) and table not in found:
            found.append(table)
    return tuple(found)


def lap_as_written(one, other):
    return max(many for many in range(min(len(one), len(other))) if one[len(one) - many:] == other[:many])


def least_length(tables):
    """The length of a shortest row with all of these needed tables, by all orders."""
    lengths = []
    for order in permutations(tables):
        length = sum(len(table) for table in order)
        lengths.append(length - sum(lap_as_written(one, other) for one, other in zip(order, order[1:])))
    return min(lengths)


def are_numbers(value):
    return type(value) is tuple and all(type(number) is int and number >= 0 for number in value)


def paper_as_written(tables, many, paper):
    if type(many) is not int or type(paper) is not tuple or len(paper) != 2 or len(needed_as_written(tables)) > 6:
        return False
    row, worths = paper
    if not are_numbers(row) or not all(stands(table, row) for table in tables) or len(row) != many:
        return False
    found = needed_as_written(tables)
    if type(worths) is not tuple or len(worths) != 2 ** len(found) - 1:
        return False
    members = {z: [i for i in range(len(found)) if z // 2 ** i % 2 == 1] for z in range(1, 2 ** len(found))}
    if not all(are_numbers(entry) and len(entry) == len(members[at + 1]) for at, entry in enumerate(worths)):
        return False
    number = {(z, i): worths[z - 1][members[z].index(i)] for z in members for i in members[z]}
    if any(number[2 ** i, i] > len(found[i]) for i in range(len(found))):
        return False
    for z, i in number:
        for j in range(len(found)):
            more = len(found[j]) - lap_as_written(found[i], found[j])
            if j not in members[z] and number[z + 2 ** j, j] > number[z, i] + more:
                return False
    return min(worths[-1]) == many


def random_tables(source, many, numbers):
    """Switch tables of 1 to 4 numbers, many of them overlapping, some cut out of others or put twice."""
    row = [source.randrange(numbers) for _ in range(20)]
    tables = []
    for _ in range(many):
        at, length = source.randrange(16), source.choice([1, 2, 3, 4, 4])
        if source.random() < 0.3:
            tables.append(tuple(source.randrange(numbers) for _ in range(length)))
        else:
            tables.append(tuple(row[at:at + length]))
    return tuple(tables)


class NeededTest(unittest.TestCase):
    def test_in_order(self):
        self.assertEqual(needed(((1, 2), (0, 1, 2), (2,), (3,), (0, 1, 2), (3,))), ((0, 1, 2), (3,)))
        self.assertEqual(needed(tables=((5,),) * 31), ((5,),))
        self.assertEqual(needed(((1, 2), (2, 1), (1, 1))), ((1, 2), (2, 1), (1, 1)))
        self.assertEqual(needed(((31, 0, 31, 0), (0, 31), (31, 0), (31, 31))), ((31, 0, 31, 0), (31, 31)))

    def test_as_written(self):
        source = seeded(110)
        for _ in range(400):
            tables = random_tables(source, source.randrange(1, 32), source.choice([2, 3, 5, 32]))
            self.assertEqual(needed(tables), needed_as_written(tables))
            self.assertTrue(is_plain(needed(tables)))

    def test_errors(self):
        for value in NO_TABLES + ANY_VALUES:
            for call in (needed, area, area_paper):
                if not (value == ((0,),) and isinstance(value, tuple)):
                    self.assertIs(caught(self, InvalidTables, call, value).value, value)
            self.assertIs(area_holds(value, 1, ((0,), ((1,),))), False)


class AreaTest(unittest.TestCase):
    def assert_area(self, tables):
        row, found = area(tables), needed(tables)
        self.assertTrue(is_plain(row))
        self.assertTrue(all(stands(table, row) for table in tables))
        if len(found) > 6:
            self.assertEqual(row, sum(found, ()))
            self.assertEqual(caught(self, Undefined, area_paper, tables).what, "tables")
            self.assertIs(area_holds(tables, len(row), (row, ())), False)
            return len(found)
        self.assertEqual(len(row), least_length(found))
        paper = area_paper(tables)
        self.assertTrue(is_plain(paper))
        self.assertIs(area_holds(tables, len(row), paper), True)
        self.assertTrue(paper_as_written(tables, len(row), paper))
        for many in (len(row) - 1, len(row) + 1, 0, None, True, str(len(row)), (len(row),), [len(row)]):
            self.assertIs(area_holds(tables, many, paper), False)
        return len(found)

    def test_small_ones(self):
        self.assertEqual(area(((0,),)), (0,))
        self.assertEqual(area(tables=((0, 1), (1, 2))), (0, 1, 2))
        self.assertEqual(area(((1, 2), (0, 1))), (0, 1, 2))
        self.assertEqual(area(((1, 2, 3), (2,), (3,))), (1, 2, 3))
        self.assertEqual(area(ABC), (0, 1, 2, 2, 3))
        self.assertEqual(area_paper(((0,),)), ((0,), ((1,),)))
        self.assertEqual(area_paper(((0, 1), (1, 2))), ((0, 1, 2), ((2,), (2,), (4, 3))))
        self.assertEqual(self.assert_area(ABC), 3)

    def test_no_shorter_row_at_all(self):
        source = seeded(111)
        for _ in range(60):
            tables = random_tables(source, source.randrange(1, 5), 2)
            shortest = len(area(tables))
            for length in range(1, shortest):
                for row in product((0, 1), repeat=length):
                    self.assertFalse(all(stands(table, row) for table in tables))
            self.assertLessEqual(shortest, 11)

    def test_up_to_6_needed(self):
        source = seeded(112)
        seen = {}
        for _ in range(400):
            tables = random_tables(source, source.choice([1, 2, 3, 5, 6, 7, 8, 20, 31]), source.choice([2, 3, 5, 32]))
            many = self.assert_area(tables)
            seen[many] = seen.get(many, 0) + 1
        self.assertGreater(min(seen[many] for many in range(1, 9)), 3)

    def test_6_and_7_and_31_needed(self):
        for many in (5, 6, 7, 31):
            tables = tuple((number, (number + 1) % 32, (number + 2) % 32) for number in range(many))
            self.assertEqual(self.assert_area(tables), many)
            self.assertEqual(len(area(tables)), many + 2 if many <= 6 else 3 * many)
            again = tables + tables[:31 - many]
            self.assertEqual(area(again), area(tables))
        wide = tuple((at, 31 - at, at, 31 - at) for at in range(6))
        self.assertEqual(self.assert_area(wide), 6)
        self.assertEqual(len(area(tuple((at, at, at, at) for at in range(31)))), 124)


class AreaHoldsTest(unittest.TestCase):
    def test_changed_at_one_place(self):
        source = seeded(113)
        held = 0
        for _ in range(150):
            tables = random_tables(source, source.randrange(1, 6), source.choice([2, 3, 5]))
            paper = area_paper(tables)
            many = len(paper[0])
            for _ in range(15):
                value = changed(source, paper)
                claim = source.choice([many, many, many, many - 1, many + 1])
                holds = area_holds(tables, claim, value)
                self.assertIs(holds, paper_as_written(tables, claim, value), value)
                self.assertTrue(claim == many or not holds)
                held += holds
        self.assertGreater(held, 50)

    def test_a_list_or_a_bool_anywhere(self):
        for tables in (((0,),), ((0, 1), (1, 2)), ABC):
            paper = area_paper(tables)
            for value in with_odd_parts(paper):
                self.assertIs(area_holds(tables, len(paper[0]), value), False)

    def test_rows_longer_and_worths_lower(self):
        tables = ((0, 1), (1, 2))
        row, worths = area_paper(tables)
        self.assertIs(area_holds(tables, 3, ((0, 1, 2), ((2,), (2,), (4, 3)))), True)
        self.assertIs(area_holds(tables, 3, ((0, 1, 2), ((2,), (2,), (3, 3)))), True)
        self.assertIs(area_holds(tables, 3, ((0, 1, 2), ((2,), (1,), (3, 3)))), True)
        self.assertIs(area_holds(tables, 3, ((0, 1, 2), ((1,), (2,), (3, 3)))), False)
        self.assertIs(area_holds(tables, 3, ((0, 1, 2), ((3,), (2,), (4, 3)))), False)
        self.assertIs(area_holds(tables, 3, ((0, 1, 2), ((2,), (2,), (5, 3)))), False)
        self.assertIs(area_holds(tables, 3, ((0, 1, 2), ((2,), (2,), (4, 4)))), False)
        self.assertIs(area_holds(tables, 2, ((0, 1, 2), ((2,), (2,), (4, 2)))), False)
        # a longer row, and worths that would need to be higher
        longer = (0, 1, 1, 2)
        self.assertIs(area_holds(tables, 4, (longer, ((2,), (2,), (4, 3)))), False)
        self.assertIs(area_holds(tables, 4, (longer, ((2,), (2,), (4, 4)))), False)
        self.assertIs(area_holds(tables, 3, (longer, worths)), False)
        self.assertIs(area_holds(tables, 4, (row + (10 ** 11,), worths)), False)
        self.assertIs(area_holds(tables, 3, ((5, 1, 2), worths)), False)
        for cut in ((row,), (row, worths[:-1]), (row, worths + worths[-1:]), (row[:2], worths), (worths, row), ()):
            self.assertIs(area_holds(tables, 3, cut), False)

    def test_7_needed_with_a_paper_that_would_do(self):
        for many in (6, 7):
            tables = tuple((at, at + 1, at + 2) for at in range(many))
            row = tuple(range(many + 2))
            numbers = {}
            for z in range(1, 2 ** many):
                for j in range(many):
                    ahead = [numbers[z - 2 ** j, i] - lap_as_written(tables[i], tables[j]) for i in range(many)
                             if (z - 2 ** j, i) in numbers] if z // 2 ** j % 2 else None
                    if ahead is not None:
                        numbers[z, j] = 3 + min(ahead, default=0)
            worths = tuple(tuple(numbers[z, j] for j in range(many) if (z, j) in numbers) for z in range(1, 2 ** many))
            self.assertEqual(min(worths[-1]), many + 2)
            self.assertIs(area_holds(tables, many + 2, (row, worths)), many == 6)

    def test_tables_that_are_not_needed(self):
        paper = area_paper(((0, 1, 2),))
        self.assertIs(area_holds(((0, 1, 2), (1, 2), (0,), (0, 1, 2)), 3, paper), True)
        self.assertIs(area_holds(((0, 1, 2), (1, 2), (0,), (3,)), 3, paper), False)

    def test_any_value(self):
        row, worths = paper = area_paper(ABC)
        self.assertIs(area_holds(tables=ABC, many=5, paper=paper), True)
        for value in ANY_VALUES:
            self.assertIs(area_holds(ABC, value, paper), False)
            self.assertIs(area_holds(ABC, 5, value), False)
            for path in ((0,), (1,), (0, 0), (1, 0), (1, 6), (1, 6, 1), (1, 0, 0)):
                odd = with_part(paper, path, value)
                self.assertIs(area_holds(ABC, 5, odd), paper_as_written(ABC, 5, odd))
        for value in NO_TABLES:
            self.assertIs(area_holds(value, 6, paper), False)


if __name__ == "__main__":
    unittest.main()
