"""Areas: rows of numbers in which switch tables stand, overlapping one another."""

from calltrim.errors import InvalidTables, Undefined
from calltrim.kinds import is_number, is_tuple_below

MOST_TABLES = 31
MOST_NUMBERS = 4
NUMBERS_BELOW = 32
# so many needed tables are still laid in a shortest row
MOST_ORDERED = 6


def is_switch_table(value):
    return is_tuple_below(value, NUMBERS_BELOW) and 1 <= len(value) <= MOST_NUMBERS


def is_tables(value):
    if not isinstance(value, tuple) or not 1 <= len(value) <= MOST_TABLES:
        return False
    return all([is_switch_table(table) for table in value])


def check_tables(tables):
    if not is_tables(tables):
        raise InvalidTables(tables)


def least_stand(table, row):
    """The least number at which the table stands in the row; None if it does not."""
    for at in range(len(row) - len(table) + 1):
        if row[at:at + len(table)] == table:
            return at
    return None


def needed(tables):
    check_tables(tables)
    found = []
    for table in tables:
        inner = any([other != table and least_stand(table, other) is not None for other in tables])
        if not inner and table not in found:
            found.append(table)
    return tuple(found)


def lap(one, other):
    """The greatest count of last numbers of one that are the first ones of other, less than both lengths."""
    many = min(len(one), len(other)) - 1
    while one[len(one) - many:] != other[:many]:
        many = many - 1
    return many


def members_of(tables, number):
    """The tables, by their places, of the set with this number."""
    return [at for at in range(len(tables)) if (number >> at) & 1]


def shortest_rows(tables):
    """For each number of a set a dict: a shortest row of its tables that ends with this one, for each of them."""
    rows = [{}]
    for number in range(1, 1 << len(tables)):
        rows.append({at: shortest_row(tables, number, at, rows) for at in members_of(tables, number)})
    return rows


def shortest_row(tables, number, last, rows):
    ahead = rows[number - (1 << last)]
    table = tables[last]
    found = [ahead[at] + table[lap(tables[at], table):] for at in ahead]
    return min(found, key=len) if found else table


def area(tables):
    found = needed(tables)
    if len(found) > MOST_ORDERED:
        return tuple([number for table in found for number in table])
    return min(list(shortest_rows(found)[-1].values()), key=len)


def area_paper(tables):
    found = needed(tables)
    if len(found) > MOST_ORDERED:
        raise Undefined("tables")
    rows = shortest_rows(found)
    worths = [tuple([len(rows[number][at]) for at in members_of(found, number)]) for number in range(1, len(rows))]
    return area(tables), tuple(worths)


def area_holds(tables, many, paper):
    if not is_tables(tables) or not is_number(many) or not isinstance(paper, tuple) or len(paper) != 2:
        return False
    row, worths = paper
    if not is_area(tables, row) or len(row) != many:
        return False
    found = needed(tables)
    return len(found) <= MOST_ORDERED and are_worths(found, worths) and min(worths[-1]) == many


def is_area(tables, value):
    """Whether value is a row of numbers in which each of the tables stands."""
    if not isinstance(value, tuple) or not all([is_number(number) for number in value]):
        return False
    return all([least_stand(table, value) is not None for table in tables])


def are_worths(tables, value):
    """Whether value has numbers for all sets of the tables that are not more than rows of them can be long."""
    if not isinstance(value, tuple) or len(value) != (1 << len(tables)) - 1:
        return False
    for at in range(len(value)):
        many = len(members_of(tables, at + 1))
        if not isinstance(value[at], tuple) or len(value[at]) != many or not all([is_number(x) for x in value[at]]):
            return False
    # in front of them the set that has no members
    worths = [{}] + [by_member(tables, at + 1, value[at]) for at in range(len(value))]
    return all([fits_set(tables, worths, number) for number in range(1, len(worths))])


def by_member(tables, number, entry):
    members = members_of(tables, number)
    return {members[at]: entry[at] for at in range(len(members))}


def fits_set(tables, worths, number):
    """Whether no member of the set has a number greater than those of the set without it let it have."""
    for last, worth in worths[number].items():
        table = tables[last]
        ahead = worths[number - (1 << last)]
        bounds = [ahead[at] + len(table) - lap(tables[at], table) for at in ahead]
        if worth > min(bounds + ([] if ahead else [len(table)])):
            return False
    return True
