"""The least cells on which the slots of a plan can lie with no saves but the forced ones, with papers."""

from calltrim.causes import causes_of, first_causes
from calltrim.clashes import clashing, forced_saves, shows_clash
from calltrim.flows import all_slots, cover, is_slot, least_facts
from calltrim.kinds import is_number
from calltrim.placements import is_placement
from calltrim.showings import Showings
from calltrim.trees import tree_holds, tree_of


def both_ways(pairs):
    """The pairs of names in both orders, as the keys of a dict."""
    return {pair: True for one, other in pairs for pair in ((one, other), (other, one))}


def cells_within(slots, bars, many, chosen):
    """A cell below many for each of the slots, those behind the chosen ones free to choose; None if there are none."""
    if len(chosen) == len(slots):
        return chosen
    slot = slots[len(chosen)]
    # a cell that is not in use yet is as good as any other such
    for cell in range(min(many, max(chosen, default=-1) + 2)):
        taken = [at for at in range(len(chosen)) if chosen[at] == cell and (slots[at], slot) in bars]
        found = None if taken else cells_within(slots, bars, many, (*chosen, cell))
        if found is not None:
            return found
    return None


def least_within(slots, bars):
    """A cell for each of the slots, as few as there can be, counted from 0."""
    many = 0
    found = cells_within(slots, bars, many, ())
    while found is None:
        many += 1
        found = cells_within(slots, bars, many, ())
    return found


def laid(plan):
    slots = all_slots(plan)
    saves = forced_saves(plan)
    cells = least_within(slots, both_ways(clashing(plan, saves)))
    by_slot = {slots[at]: plan.commons + cells[at] for at in range(len(slots))}
    placement = [tuple([by_slot[(f, s)] for s in range(plan.procedures[f][0])]) for f in range(len(plan.procedures))]
    return tuple(placement), saves


def cells_used(placement):
    """All cells in use, ascending."""
    return sorted({cell for cells in placement for cell in cells})


def least_cells(plan):
    placement, _ = laid(plan)
    return len(cells_used(placement))


def cells_paper(plan):
    placement, saves = laid(plan)
    showings = Showings(plan)
    causes = clashing(plan, saves)
    runs = tuple([(x, y, showings.moves_of(causes[(x, y)])) for x, y in sorted(causes)])
    tree = tree_of(all_slots(plan), both_ways(causes), len(cells_used(placement)))
    return placement, least_facts(plan), runs, tree


def facts_allow(plan, placement, saves, value):
    """Whether value is facts that keep apart all slots with one cell, and each slot from itself, under the saves."""
    if not cover(plan, value):
        return False
    pairs = first_causes(causes_of(plan, saves, value))
    return not any([placement[x[0]][x[1]] == placement[y[0]][y[1]] for x, y in pairs])


def uses_just(plan, placement, many):
    """Whether the cells in use are many, from that behind the common variables on."""
    cells = cells_used(placement)
    return len(cells) == many and (not cells or (cells[0] == plan.commons and cells[-1] == plan.commons + many - 1))


def is_shown(plan, saves, value):
    """Whether value is two slots, the lesser one first, and moves that show their clash."""
    x, y, moves = value
    return x < y and shows_clash(plan, saves, x, y, moves)


def are_runs(plan, saves, value):
    if not isinstance(value, tuple) or not all([isinstance(shown, tuple) and len(shown) == 3 for shown in value]):
        return False
    if not all([is_slot(plan, x) and is_slot(plan, y) for x, y, _ in value]):
        return False
    pairs = [(x, y) for x, y, _ in value]
    if any([pairs[at] >= pairs[at + 1] for at in range(len(pairs) - 1)]):
        return False
    return all([is_shown(plan, saves, shown) for shown in value])


def cells_hold(plan, many, paper):
    if not is_number(many) or not isinstance(paper, tuple) or len(paper) != 4:
        return False
    placement, found, runs, tree = paper
    if not is_placement(plan, placement) or not uses_just(plan, placement, many):
        return False
    saves = forced_saves(plan)
    if not facts_allow(plan, placement, saves, found) or not are_runs(plan, saves, runs):
        return False
    return tree_holds(all_slots(plan), both_ways([(x, y) for x, y, _ in runs]), many, tree)
