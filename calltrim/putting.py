"""Putting in a procedure at its only call."""

from calltrim.codes import Code, is_lines
from calltrim.errors import Undefined
from calltrim.lines import ends_well, led_line, targets_of
from calltrim.runs import check_place
from calltrim.tidying import check_entries


def body_at(code, place):
    """The places from the target of the call line at place to the next back line; None if there are none."""
    line = code.lines[place]
    if line[0] != "call":
        return None
    backs = [at for at in range(line[1], len(code)) if code.lines[at] == ("back",)]
    return tuple(range(line[1], backs[0] + 1)) if backs else None


def stays_within(line, body):
    """Whether a line of a body may stand elsewhere with this body."""
    if line[0] == "call":
        return line[1] not in body
    return all([target in body for target in targets_of(line)])


def is_apart(code, entries, place, body):
    """Whether a body is come to by the call line at place alone, and has no way out but its back line."""
    if place in body or any([entry in body for entry in entries]):
        return False
    if body[0] > 0 and not ends_well(code.lines[body[0] - 1]):
        return False
    if not all([stays_within(code.lines[at], body) for at in body]):
        return False
    others = [at for at in range(len(code)) if at not in body and at != place]
    return not any([target in body for at in others for target in targets_of(code.lines[at])])


def without_call(code, entries, place, body):
    """The tuple (lines, entries) in which a body but for its last line stands for the call line at place."""
    order = []
    for at in range(len(code)):
        if at == place:
            order.extend(body[:-1])
        elif at not in body:
            order.append(at)
    here = {order[at]: at for at in range(len(order))}
    here[body[-1]] = here[place + 1]
    # the first line of the body, if it has but one line what follows the call
    here[place] = here[body[0]]
    lines = tuple([led_line(code.lines[at], here) for at in order])
    return lines, tuple([here[entry] for entry in entries])


def made(code, entries, place):
    """The tuple (lines, entries) that is made by putting in at the place; None if there is none."""
    check_entries(code, entries)
    check_place(code, place)
    body = body_at(code, place)
    if body is None or not is_apart(code, entries, place, body):
        return None
    lines, moved = without_call(code, entries, place, body)
    return (lines, moved) if is_lines(lines) else None


def can_put_in(code, entries, place):
    return made(code, entries, place) is not None


def put_in(code, entries, place):
    found = made(code, entries, place)
    if found is None:
        raise Undefined("put in")
    return Code(found[0]), found[1]
