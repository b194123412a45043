"""Skimmed and shared codes and putting in, as plainly as the document says them, to compare with."""

from calltrim.codes import Code
from calltrim.errors import TrimError
from calltrim.forms import prime_form


def targets_at(code, place):
    line = code[place]
    if line[0] == "ask":
        return line[2]
    return line[1:] if line[0] in ("go", "call") else ()


def all_targets(code):
    return [target for place in range(len(code)) for target in targets_at(code, place)]


def followers_at(code, place):
    kind = code[place][0]
    behind = () if kind in ("go", "back") else (place + 1,)
    return (*behind, *targets_at(code, place))


def reached_as_written(code, entries):
    found = set(entries)
    while True:
        more = found | {follower for place in found for follower in followers_at(code, place)}
        if more == found:
            return tuple(sorted(found))
        found = more


def landed_as_written(code, place):
    return landed_as_written(code, code[place][1]) if code[place][0] == "go" else place


def skim_faults(code, entries):
    """Which sentences of point 24 do not hold."""
    faults = []
    if len(reached_as_written(code, entries)) < len(code):
        faults.append("not reached")
    if any(code[place][0] == "go" for place in all_targets(code) + list(entries)):
        faults.append("go at a target")
    for place in range(len(code)):
        if code[place][0] == "go" and code[place][1] == place + 1:
            faults.append("go to the next")
        if code[place][0] == "go" and code[code[place][1]][0] == "back":
            faults.append("go to a back")
        if code[place][0] == "call" and code.norms[code[place][1]] == 0:
            faults.append("call of nothing")
        if code[place][0] == "call" and code.norms[place + 1] == 0:
            faults.append("call at the end")
    return sorted(set(faults))


def working_places(code):
    return [place for place in range(len(code)) if code[place][0] in ("do", "ask", "call")]


def goes_on(code):
    return {place: landed_as_written(code, place + 1) for place in working_places(code)}


def rings_of(code):
    """The rings, each as a set of places."""
    nexts, rings = goes_on(code), []
    for place in nexts:
        ring, at = [place], nexts[place]
        while at in nexts and at not in ring:
            ring.append(at)
            at = nexts[at]
        alone = all(other in ring or nexts[other] not in ring for other in nexts)
        if at == place and alone and set(ring) not in rings:
            rings.append(set(ring))
    return rings


def least_number_of_lines(code, entries):
    """The sum of point 25."""
    nexts = goes_on(code)
    backs = sum(code[after][0] == "back" for after in nexts.values())
    if backs == 0 and any(code[place][0] == "back" for place in all_targets(code) + list(entries)):
        backs = 1
    joined = 0
    for place in nexts:
        many = list(nexts.values()).count(place)
        joined += many - 1 if many > 1 else 0
    return len(nexts) + backs + joined + len(rings_of(code))


def share_faults(code, entries):
    faults = skim_faults(code, entries)
    forms = [prime_form(code, (place,)) for place in working_places(code)]
    if len(set(forms)) < len(forms):
        faults.append("twins")
    if not faults and len(code) > least_number_of_lines(code, entries):
        faults.append("too many lines")
    return faults


def put_in_as_written(code, entries, place):
    """The lines and entries that putting in makes, and why there are none."""
    if code[place][0] != "call":
        return None, "no call"
    first = code[place][1]
    backs = [at for at in range(first, len(code)) if code[at] == ("back",)]
    if not backs:
        return None, "no back"
    last = backs[0]
    inside = list(range(first, last + 1))
    why = put_in_fault(code, entries, place, inside)
    if why:
        return None, why
    order = []
    for at in range(len(code)):
        order += [at] if at not in inside and at != place else []
        order += inside[:-1] if at == place else []

    def here(at):
        if at == place:
            return here(first) if first < last else here(place + 1)
        return here(place + 1) if at == last else order.index(at)

    lines = []
    for at in order:
        line = code[at]
        if line[0] == "ask":
            line = (*line[:2], tuple(here(target) for target in line[2]))
        elif line[0] in ("go", "call"):
            line = (line[0], here(line[1]))
        lines.append(line)
    try:
        return (Code(lines).lines, tuple(here(entry) for entry in entries)), ""
    except TrimError:
        return None, "refused"


def put_in_fault(code, entries, place, inside):
    if place in inside:
        return "call inside"
    if set(entries) & set(inside):
        return "entry inside"
    if inside[0] > 0 and code[inside[0] - 1][0] not in ("go", "back"):
        return "runs in"
    for at in range(len(code)):
        targets = set(targets_at(code, at))
        if at in inside[:-1]:
            if code[at][0] == "call" and targets & set(inside):
                return "calls inside"
            if code[at][0] != "call" and targets - set(inside):
                return "leads out"
        elif at != place and targets & set(inside):
            return "leads in"
    return ""
