"""What flows through plans: which lines runs reach, which slots are wanted and which ones procedures write.

Each is found as a closure, by a tuple (starts, steps); places are tuples (f, p), wanted are triples (f, p, s),
written triples (f, g, t).
"""

from calltrim.closures import closure, is_closed
from calltrim.kinds import is_ascending, is_number_below
from calltrim.planlines import behind_line, slots_read, slots_written


def line_at(plan, place):
    procedure, at = place
    return plan.procedures[procedure][1][at]


def is_place(plan, value):
    if not isinstance(value, tuple) or len(value) != 2 or not is_number_below(value[0], len(plan.procedures)):
        return False
    return is_number_below(value[1], len(plan.procedures[value[0]][1]))


def is_slot(plan, value):
    if not isinstance(value, tuple) or len(value) != 2 or not is_number_below(value[0], len(plan.procedures)):
        return False
    return is_number_below(value[1], plan.procedures[value[0]][0])


def all_slots(plan):
    """All slots of the plan, ascending."""
    return [(f, s) for f in range(len(plan.procedures)) for s in range(plan.procedures[f][0])]


def slots_read_at(plan, place):
    return [(place[0], s) for s in slots_read(line_at(plan, place), plan.commons)]


def slots_written_at(plan, place):
    return [(place[0], s) for s in slots_written(line_at(plan, place), plan.commons)]


def slot_steps(plan):
    """For each (f, p, s) whose line does not write the slot s the triples behind this line."""
    steps = {}
    for f, p in plan.places:
        written = slots_written_at(plan, (f, p))
        for s in range(plan.procedures[f][0]):
            if (f, s) not in written:
                steps[(f, p, s)] = [(f, q, s) for q in behind_line(line_at(plan, (f, p)), p)]
    return steps


def first_unset(plan):
    """The first line with the least slot that it may read too early, as (f, p, s); None if there is none."""
    unset = closure([(f, 0, s) for f, s in all_slots(plan)], slot_steps(plan))
    for f, p in plan.places:
        for _, s in sorted(slots_read_at(plan, (f, p))):
            if (f, p, s) in unset:
                return f, p, s
    return None


def reached_rules(plan):
    steps = {}
    for place in plan.places:
        line = line_at(plan, place)
        called = [(line[1], 0)] if line[0] == "call" else []
        steps[place] = [(place[0], q) for q in behind_line(line, place[1])] + called
    return [(0, 0)], steps


def wanted_rules(plan, reached):
    """What is wanted at the lines of a dict of places."""
    starts = [(f, p, s) for f, p in reached for _, s in slots_read_at(plan, (f, p))]
    steps = {}
    for node, behind in slot_steps(plan).items():
        if node[:2] in reached:
            for later in behind:
                steps.setdefault(later, []).append(node)
    return starts, steps


def written_rules(plan, reached):
    """What the procedures write by the lines of a dict of places."""
    starts = [(f, f, t) for f, p in reached for _, t in slots_written_at(plan, (f, p))]
    steps = {}
    for place in reached:
        line = line_at(plan, place)
        if line[0] == "call":
            for g, t in all_slots(plan):
                steps.setdefault((line[1], g, t), []).append((place[0], g, t))
    return starts, steps


def all_wanted(plan):
    """Which slots are wanted at which lines, reached or not, as the keys of a dict of triples."""
    starts, steps = wanted_rules(plan, {place: True for place in plan.places})
    return closure(starts, steps)


def least_facts(plan):
    """The facts that any others that cover the plan have in them."""
    starts, steps = reached_rules(plan)
    reached = closure(starts, steps)
    starts, steps = wanted_rules(plan, reached)
    wanted = closure(starts, steps)
    starts, steps = written_rules(plan, reached)
    written = closure(starts, steps)
    return tuple(sorted(reached)), tuple(sorted(wanted)), tuple(sorted(written))


def is_wanted_form(plan, value):
    """Whether value is a triple of a place and a slot of its procedure."""
    return isinstance(value, tuple) and len(value) == 3 and is_place(plan, value[:2]) and is_slot(plan, value[::2])


def is_written_form(plan, value):
    """Whether value is a triple of the number of a procedure and a slot."""
    if not isinstance(value, tuple) or len(value) != 3:
        return False
    return is_number_below(value[0], len(plan.procedures)) and is_slot(plan, value[1:])


def are_facts(plan, value):
    if not isinstance(value, tuple) or len(value) != 3 or not all([isinstance(part, tuple) for part in value]):
        return False
    reached, wanted, written = value
    if not all([is_place(plan, place) for place in reached]):
        return False
    if not all([is_wanted_form(plan, triple) for triple in wanted]):
        return False
    if not all([is_written_form(plan, triple) for triple in written]):
        return False
    return is_ascending(reached) and is_ascending(wanted) and is_ascending(written)


def cover(plan, value):
    """Whether value is facts that cover the plan."""
    if not are_facts(plan, value):
        return False
    reached, wanted, written = [{fact: True for fact in part} for part in value]
    starts, steps = reached_rules(plan)
    if not is_closed(reached, starts, steps):
        return False
    starts, steps = wanted_rules(plan, reached)
    if not is_closed(wanted, starts, steps):
        return False
    starts, steps = written_rules(plan, reached)
    return is_closed(written, starts, steps)
