"""Values changed at one place, and values of odd kinds and sizes, for functions that take any value."""

from calltrim.errors import InvalidRow
from support import ODD_VALUES, SMALL

MOST_MEMBERS = 30000


def nested(deep, foot):
    for _ in range(deep):
        foot = (foot,)
    return foot


LARGE_VALUES = [
    nested(59, 0), nested(59, ()), nested(58, []), [nested(58, True)], (0,) * MOST_MEMBERS, ((),) * MOST_MEMBERS,
    [0] * MOST_MEMBERS, ((0, 0),) * 9000, "a" * 20000, (nested(40, (0,)),) * 200, ((0,) * 9000, (1,) * 9000, (2,) * 9000),
    ((("a", ((0,),)),) * 4000, (), ()),
]
ANY_VALUES = [*ODD_VALUES, *LARGE_VALUES, InvalidRow((0,)), (None, None), ((), ()), ((), (), ()), (((),), ((),), ((),))]
JUNK = [None, True, False, -1, 3, 10 ** 11, "", "a", [], [0], (), (0,), (True,), SMALL]


def paths_of(value, ahead=()):
    """The ways to all parts of a nested tuple, the whole one first."""
    found = [ahead]
    if isinstance(value, tuple):
        for at, member in enumerate(value):
            found += paths_of(member, (*ahead, at))
    return found


def part_at(value, path):
    for at in path:
        value = value[at]
    return value


def with_part(value, path, part):
    if not path:
        return part
    at = path[0]
    return (*value[:at], with_part(value[at], path[1:], part), *value[at + 1:])


def changed_tuple(source, part):
    """A tuple as a list, cut off, lengthened, or with members left out, put twice, or in each other's place."""
    if not part or source.random() < 0.15:
        return source.choice([list(part), (*part, ()), (*part, 0), None])
    at, other = source.randrange(len(part)), source.randrange(len(part))
    swapped = list(part)
    swapped[at], swapped[other] = swapped[other], swapped[at]
    return source.choice([
        part[:at], (*part[:at], *part[at + 1:]), (*part[:at + 1], *part[at:]), tuple(swapped), part + part])


def changed(source, value):
    """The value changed at one place; it may be equal by chance, or as good as it was."""
    part_path = source.choice(paths_of(value))
    part = part_at(value, part_path)
    if source.random() < 0.2:
        new = source.choice(JUNK)
    elif isinstance(part, tuple):
        new = changed_tuple(source, part)
    elif isinstance(part, int):
        new = source.choice([part + 1, part - 1, source.randrange(8), part + 2, bool(part)])
    else:
        new = source.choice(JUNK + ["t.1", "b"])
    return with_part(value, part_path, new)


def with_odd_parts(value):
    """The value with a list, a bool and other odd things at each of its places in turn."""
    for path in paths_of(value):
        part = part_at(value, path)
        if isinstance(part, tuple):
            yield with_part(value, path, list(part))
        if part in (0, 1) and isinstance(part, int):
            yield with_part(value, path, bool(part))
        yield with_part(value, path, None)
        yield with_part(value, path, SMALL)
