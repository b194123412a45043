"""Causes of clashes: lines by which facts let two slots clash.

A cause is a tuple (place, held, written) of a place of the plan and two slots, of which the first one holds a value
that is wanted behind the event that writes the other one: this is the event of the do line there, or one of the
procedure that is called there.
"""

from calltrim.flows import line_at, slots_written_at


def wanted_by_place(wanted):
    """For each place the slots of its procedure that are wanted there."""
    found = {}
    for f, p, s in wanted:
        found.setdefault((f, p), []).append((f, s))
    return found


def causes_of(plan, saves, found):
    """All causes by facts under saves, those of do lines first."""
    reached, wanted, written = found
    later = wanted_by_place(wanted)
    own, called = [], []
    for f, p in reached:
        line = line_at(plan, (f, p))
        behind = later.get((f, p + 1), [])
        for slot in slots_written_at(plan, (f, p)):
            own.extend([((f, p), held, slot) for held in behind if held != slot])
        if line[0] == "call":
            unsafe = [held for held in behind if (f, p, held[1]) not in saves]
            slots = [(h, t) for g, h, t in written if g == line[1]]
            called.extend([((f, p), held, slot) for held in unsafe for slot in slots])
    return own + called


def pair_of(one, other):
    return (one, other) if one <= other else (other, one)


def first_causes(causes):
    """For each pair of slots, the lesser one first, the first of its causes."""
    found = {}
    for cause in causes:
        found.setdefault(pair_of(cause[1], cause[2]), cause)
    return found
