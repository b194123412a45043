"""Trees that show that slots, in groups, cannot lie on fewer than so many cells.

A tree is looked at with names, the groups in their order, and with bars, a dict of the pairs of them (each in both
orders) that cannot have one cell. It is a leaf, a tuple of places of names any two of which bar one another, or a
tuple (JOIN, i, j, tree, tree): one for the groups i and j having one cell, the other one for them having two.
"""

from calltrim.kinds import is_ascending, is_number_below, is_tuple_below

JOIN = "join"


def joined_groups(names, bars, i, j):
    """Names and bars when group i has the members of group j, too."""
    kept, gone = names[i], names[j]
    moved = {}
    for one, other in bars:
        left, right = (kept if one == gone else one), (kept if other == gone else other)
        # groups that bar one another may be joined; leaves do not look at a group and itself
        moved[(left, right)] = True
    return names[:j] + names[j + 1:], moved


def barred_groups(names, bars, i, j):
    """The bars when the groups i and j bar one another, too."""
    return {**bars, (names[i], names[j]): True, (names[j], names[i]): True}


def is_leaf(names, bars, many, value):
    if not is_tuple_below(value, len(names)) or len(value) != many or not is_ascending(value):
        return False
    return all([(names[one], names[other]) in bars for one in value for other in value if one != other])


def tree_holds(names, bars, many, value):
    """Whether value is a tree by which the groups cannot lie on fewer than many cells."""
    if not isinstance(value, tuple) or not value or value[0] != JOIN:
        return is_leaf(names, bars, many, value)
    if len(value) != 5 or not is_number_below(value[2], len(names)) or not is_number_below(value[1], value[2]):
        return False
    _, i, j, one, other = value
    if not tree_holds(names, barred_groups(names, bars, i, j), many, other):
        return False
    fewer, moved = joined_groups(names, bars, i, j)
    return tree_holds(fewer, moved, many, one)


def found_leaf(names, bars, many, chosen):
    """The chosen groups with others behind them, many together, any two of which bar one another; None if none do."""
    if len(chosen) == many:
        return chosen
    for at in range(chosen[-1] + 1 if chosen else 0, len(names)):
        if all([(names[one], names[at]) in bars for one in chosen]):
            found = found_leaf(names, bars, many, (*chosen, at))
            if found is not None:
                return found
    return None


def best_join(names, bars):
    """Of the groups that do not bar one another the two that the most groups bar from both."""
    best, most = None, -1
    for j in range(len(names)):
        for i in range(j):
            both = [name for name in names if (names[i], name) in bars and (names[j], name) in bars]
            if (names[i], names[j]) not in bars and len(both) > most:
                best, most = (i, j), len(both)
    return best


def tree_of(names, bars, many):
    """A tree of groups that cannot lie on fewer than many cells."""
    leaf = found_leaf(names, bars, many, ())
    if leaf is not None:
        return leaf
    i, j = best_join(names, bars)
    fewer, moved = joined_groups(names, bars, i, j)
    return JOIN, i, j, tree_of(fewer, moved, many), tree_of(names, barred_groups(names, bars, i, j), many)
