"""Random plans, placements and saves, sample plans, and plans near the bounds."""

from calltrim.errors import Endless, TooLong, Unset
from calltrim.plans import Plan
from plan_reference import all_saves

BACK = ("back",)


def do(name, reads=(), writes=()):
    return ("do", name, reads, writes)


# two slots of which one is read behind a call that may call itself
RECURSIVE = Plan(1, [
    (2, (do("a", (), (1,)), do("b", (), (2,)), ("call", 1), do("c", (1, 2, 0)), BACK)),
    (1, (("ask", "t", (0,), (4,)), do("d", (), (1,)), ("call", 1), do("e", (1,), (0,)), BACK)),
])
# the clashes of the five slots are a ring: (0, 2), (0, 1), (0, 0), (0, 3), (1, 0) and back to (0, 2)
RING = Plan(0, [
    (4, (do("a", (), (2,)), ("call", 1), do("b", (), (1,)), do("c", (2,), (0,)), do("d", (1,), (3,)), do("e", (0,)),
         ("call", 1), do("f", (3,)), BACK)),
    (1, (do("g", (), (0,)), do("h", (0,)), BACK)),
])
RING_CLASHES = (((0, 0), (0, 1)), ((0, 0), (0, 3)), ((0, 1), (0, 2)), ((0, 2), (1, 0)), ((0, 3), (1, 0)))
# the clashes of the four slots are a path
PATH = Plan(2, [
    (4, (do("a", (), (2,)), do("b", (), (3,)), do("c", (2,), (4,)), do("d", (3,), (5,)), do("e", (4,)),
         do("f", (5,)), BACK)),
])
# eight slots that are all alive at once
ALL_WITH_ALL = Plan(4, [
    (4, (do("a", (), (4,)), do("b", (), (5,)), do("c", (), (6,)), do("d", (), (7,)), ("call", 1), do("e", (4, 5, 6)),
         do("f", (7,)), BACK)),
    (4, (do("a", (), (4,)), do("b", (), (5,)), do("c", (), (6,)), do("d", (), (7,)), do("e", (4, 5, 6)),
         do("f", (7,)), BACK)),
])
NO_SLOTS = Plan(2, [(0, (do("a", (0,), (1,)), ("ask", "t", (1,), (0,)), ("call", 1), BACK)),
                    (0, (do("b", (1,), (0,)), BACK))])
EMPTY = Plan(0, [(0, (BACK,))])
IDLE = Plan(0, [(4, (BACK,)), (4, (BACK,))])
SAMPLES = [RECURSIVE, RING, PATH, ALL_WITH_ALL, NO_SLOTS, EMPTY, IDLE]


def shares(source, many, parts, most):
    """So many numbers up to most that are together at most many."""
    found = []
    for _ in range(parts):
        found.append(source.randrange(min(most, many - sum(found)) + 1))
    return found


def random_plan_line(source, lines, variables, procedures, last, calls):
    if last:
        return source.choice([BACK, BACK, ("go", source.randrange(lines))])

    def some(most):
        return tuple(source.randrange(variables) for _ in range(source.randrange(most + 1))) if variables else ()

    turn = source.random()
    name = source.choice(["a", "b", "op", "pus", "pops", "zzzz"])
    if turn < 0.5 - calls / 2:
        return ("do", name, some(2), some(1))
    if turn < 0.8 - calls:
        return ("ask", name, some(3), tuple(source.randrange(lines) for _ in range(source.choice([1, 1, 2, 4]))))
    if turn < 0.85 - calls:
        return ("go", source.randrange(lines))
    return ("call", source.randrange(procedures)) if turn < 0.95 else BACK


def random_procedure(source, slots, many, commons, procedures, calls):
    """Mostly all slots are written first, so that they may be read."""
    lines = []
    if source.random() < 0.7:
        order = list(range(slots))
        source.shuffle(order)
        lines = [do(source.choice("abc"), (), (commons + s,)) for s in order][:many - 1]
    while len(lines) < many:
        last = len(lines) == many - 1
        lines.append(random_plan_line(source, many, commons + slots, procedures, last, calls))
    return slots, tuple(lines)


def without_read(commons, procedures, place, slot):
    (f, p) = place
    slots, lines = procedures[f]
    line = lines[p]
    line = (*line[:2], tuple(variable for variable in line[2] if variable != commons + slot), line[3])
    return (*procedures[:f], (slots, (*lines[:p], line, *lines[p + 1:])), *procedures[f + 1:])


def made_plan(commons, procedures):
    """The plan, without reads that come too early; None if it is endless or too long."""
    while True:
        try:
            return Plan(commons, procedures)
        except Unset as error:
            procedures = without_read(commons, procedures, error.place, error.slot)
        except (Endless, TooLong):
            return None


def random_procedures(source, most=5, slots=8, lines=32):
    """A number of common variables and procedures, which may be endless, too long, or read too early."""
    commons, many = source.randrange(5), source.randrange(1, most + 1)
    own = [1 + more for more in shares(source, lines - many, many, 11)]
    calls = source.choice([0.1, 0.25])
    return commons, tuple(
        random_procedure(source, own_slots, own[f], commons, many, calls)
        for f, own_slots in enumerate(shares(source, slots, many, 4)))


def random_plan(source, most=5, slots=8, lines=32):
    while True:
        plan = made_plan(*random_procedures(source, most, slots, lines))
        if plan is not None:
            return plan


def lively_procedure(source, slots, commons, many):
    """Its slots are alive at a call that comes behind a test."""
    lines = [do(source.choice("ab"), (), (commons + s,)) for s in range(slots)]
    lines.append(("ask", "t", (), (slots + 3,)))
    lines.append(("call", source.randrange(many)) if source.random() < 0.8 else do("c"))
    lines.append(random_plan_line(source, slots + 4, commons + slots, many, False, 0.1))
    reads = tuple(source.randrange(commons + slots) for _ in range(3))
    return slots, (*lines, do("r", reads), BACK)


def lively_plan(source):
    """A plan of few procedures that call one another."""
    while True:
        commons, many = source.randrange(3), source.randrange(1, 4)
        procedures = [lively_procedure(source, source.randrange(1, min(4, 8 - 2 * many) + 1), commons, many)
                      for _ in range(many)]
        plan = made_plan(commons, tuple(procedures))
        if plan is not None:
            return plan


def full_plan(source):
    """A plan of 5 procedures that call one another, with 8 slots and 32 lines."""
    while True:
        commons, procedures = source.randrange(5), []
        for slots, many in ((2, 7), (2, 7), (2, 6), (1, 6), (1, 6)):
            lines = [do("w", (), (commons + s,)) for s in range(slots)] + [("ask", "t", (), (many - 2,))]
            while len(lines) < many - 2:
                lines.append(("call", source.randrange(5)) if source.random() < 0.8 else
                             random_plan_line(source, many, commons + slots, 5, False, 0.2))
            lines += [do("r", tuple(commons + s for s in range(slots))), BACK]
            procedures.append((slots, tuple(lines)))
        plan = made_plan(commons, tuple(procedures))
        if plan is not None:
            return plan


def plans_near_the_bounds(source, many=12):
    eleven = (0, (do("a"),) * 11 + (BACK,))
    longest = Plan(0, [eleven, eleven, (0, (("call", 0),) * 2 + (BACK,))])
    deep = Plan(0, [(0, (("call", 1),) * 9 + (do("a"), BACK)), (0, (("call", 2),) * 10 + (BACK,)), (0, (BACK,))])
    own = Plan(0, [(4, tuple(do("w", (), (s,)) for s in range(4)) + (
        ("ask", "t", (), (7,)), ("call", 0), ("call", 0), do("r", (0, 1, 2)), do("r", (3,)), BACK))])
    return [full_plan(source) for _ in range(many)] + [longest, deep, own, ALL_WITH_ALL]


def random_placement(source, plan, few=False):
    most = min(16, plan.commons + source.randrange(1, 5)) if few else 16
    return tuple(tuple(source.randrange(plan.commons, most) for _ in range(slots)) for slots, _ in plan.procedures)


def random_saves(source, plan, share=0.5):
    return tuple(save for save in all_saves(plan) if source.random() < share)


def any_plan(source, turn):
    kinds = [lambda: random_plan(source), lambda: lively_plan(source), lambda: random_plan(source, 3, 8, 20),
             lambda: full_plan(source)]
    return kinds[turn % len(kinds)]()
