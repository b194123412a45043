"""Papers of cells looked at once more, as plainly as the document says them, to compare with."""

from calltrim.clashes import clashes, forced_saves
from plan_reference import all_slots, are_facts_as_written, apart_as_written, covers_as_written, shows_clash_as_written


def is_number(value, many=10 ** 20):
    return type(value) is int and 0 <= value < many


def cell_at(placement, slot):
    return placement[slot[0]][slot[1]]


def partitions(members):
    """All ways to put members into groups."""
    if not members:
        yield []
        return
    for groups in partitions(members[1:]):
        yield [[members[0]], *groups]
        for at, group in enumerate(groups):
            yield [*groups[:at], [members[0], *group], *groups[at + 1:]]


def least_groups(members, pairs):
    """The least number of groups with none of the pairs in one of them."""
    return min(len(groups) for groups in partitions(members)
               if not any(one in group and other in group for group in groups for one, other in pairs))


def least_by_search(plan):
    """The least number of cells, by trying all ways to lay the slots on cells."""
    return least_groups(all_slots(plan), clashes(plan, forced_saves(plan)))


def is_placement_on(plan, many, value):
    if type(value) is not tuple or len(value) != len(plan.procedures):
        return False
    for cells, (slots, _) in zip(value, plan.procedures):
        if type(cells) is not tuple or len(cells) != slots or not all(is_number(cell, 16) for cell in cells):
            return False
    used = {cell for cells in value for cell in cells}
    return len(used) == many and used == set(range(plan.commons, plan.commons + len(used)))


def is_slot(plan, value):
    return type(value) is tuple and all(type(part) is int for part in value) and value in all_slots(plan)


def facts_as_written(plan, placement, saves, value):
    if not are_facts_as_written(plan, value) or not covers_as_written(plan, value):
        return False
    slots = all_slots(plan)
    return all(apart_as_written(plan, saves, x, y, value) for x in slots for y in slots
               if cell_at(placement, x) == cell_at(placement, y))


def runs_as_written(plan, saves, value):
    if type(value) is not tuple:
        return False
    last = ()
    for shown in value:
        if type(shown) is not tuple or len(shown) != 3 or not is_slot(plan, shown[0]) or not is_slot(plan, shown[1]):
            return False
        x, y, moves = shown
        if not x < y or not last < (x, y) or type(moves) is not tuple or not all(is_number(move) for move in moves):
            return False
        if not shows_clash_as_written(plan, saves, x, y, moves):
            return False
        last = (x, y)
    return True


def tree_as_written(groups, barred, many, tree):
    """Groups are lists of members, barred a list of sets of two members."""
    def bar(one, other):
        return any({x, y} in barred for x in groups[one] for y in groups[other])

    if type(tree) is not tuple:
        return False
    if len(tree) == 5 and type(tree[0]) is str and tree[0] == "join":
        _, i, j, one, other = tree
        if not is_number(i) or not is_number(j, len(groups)) or i >= j:
            return False
        joined = [group + groups[j] if at == i else group for at, group in enumerate(groups) if at != j]
        more = barred + [{groups[i][0], groups[j][0]}]
        return tree_as_written(joined, barred, many, one) and tree_as_written(groups, more, many, other)
    if not all(is_number(number, len(groups)) for number in tree) or list(tree) != sorted(set(tree)):
        return False
    return len(tree) == many and all(bar(one, other) for one in tree for other in tree if one < other)


def cells_paper_as_written(plan, many, paper):
    if not is_number(many) or type(paper) is not tuple or len(paper) != 4:
        return False
    placement, facts, runs, tree = paper
    saves = forced_saves(plan)
    if not is_placement_on(plan, many, placement) or not facts_as_written(plan, placement, saves, facts):
        return False
    if not runs_as_written(plan, saves, runs):
        return False
    return tree_as_written([[slot] for slot in all_slots(plan)], [{x, y} for x, y, _ in runs], many, tree)
