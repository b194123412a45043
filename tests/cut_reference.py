"""Cuts as plainly as the document says them, to compare with."""

from itertools import combinations

from calltrim.codes import Code
from tidy_reference import all_targets


def is_number(value, many=10 ** 20):
    return type(value) is int and 0 <= value < many


def stretch(code, place, length):
    lines = code.lines[place:place + length]
    return lines if len(lines) == length and all(line[0] in ("do", "call") for line in lines) else None


def cut_fault(code, entries, value):
    """The first thing by which value is no cut; none for a cut."""
    if type(value) is not tuple or len(value) != 3 or type(value[1]) is not tuple:
        return "form"
    length, places, body = value
    if not is_number(length) or not all(is_number(place, len(code)) for place in places):
        return "numbers"
    if length < 2 or not places or any(places[at] >= places[at + 1] for at in range(len(places) - 1)):
        return "order"
    if length > len(code) or any(stretch(code, place, length) is None for place in places):
        return "no stretch"
    covered = [at for place in places for at in range(place, place + length)]
    if len(set(covered)) < len(covered):
        return "overlap"
    if any(stretch(code, place, length) != stretch(code, places[0], length) for place in places):
        return "unlike"
    if any(at in all_targets(code) + list(entries) for at in covered if at not in places):
        return "led to"
    if body is None:
        return ""
    if not is_number(body, len(code)) or stretch(code, body, length) != stretch(code, places[0], length):
        return "body"
    if set(range(body, body + length)) & set(covered):
        return "body overlaps"
    return "" if code[body + length] == ("back",) else "body goes on"


def saved_lines(cut):
    length, places, body = cut
    return sum(length - 1 for _ in places) - (length + 1 if body is None else 0)


def all_cuts(code, entries):
    """All cuts of a small code."""
    for length in range(2, len(code)):
        starts = [place for place in range(len(code)) if stretch(code, place, length)]
        for many in range(1, len(starts) + 1):
            for places in combinations(starts, many):
                for body in (None, *starts):
                    if not cut_fault(code, entries, (length, places, body)):
                        yield (length, places, body)


def best_as_written(code, entries):
    cuts = [cut for cut in all_cuts(code, entries) if saved_lines(cut) > 0]
    if not cuts:
        return None
    most = max(map(saved_lines, cuts))
    cuts = [cut for cut in cuts if saved_lines(cut) == most]
    longest = max(cut[0] for cut in cuts)
    cuts = [cut for cut in cuts if cut[0] == longest]
    bodies = [cut[2] for cut in cuts if cut[2] is not None]
    body = min(bodies) if bodies else None
    return min((cut for cut in cuts if cut[2] == body), key=lambda cut: cut[1])


def cut_lines(code, entries, cut):
    """The lines and entries that the cut makes; lines have the old places as names, and "new" for the piece."""
    length, places, body = cut
    named, here = [], {}
    for place in range(len(code)):
        if any(start < place < start + length for start in places):
            continue
        here[place] = len(named)
        named.append(("call", "new" if body is None else body) if place in places else code[place])
    if body is None:
        here["new"] = len(named)
        named += list(stretch(code, places[0], length)) + [("back",)]
    lines = []
    for line in named:
        if line[0] == "ask":
            line = (*line[:2], tuple(here[target] for target in line[2]))
        elif line[0] in ("go", "call"):
            line = (line[0], here[line[1]])
        lines.append(line)
    return tuple(lines), tuple(here[entry] for entry in entries)


def repeated_lines(source, many, words="abc"):
    """Lines in which pieces of do and call lines come again and again, the last of them returning."""
    pieces = []
    for _ in range(source.choice([1, 2])):
        pieces.append([("do", source.choice(words)) if source.random() < 0.8 else ("call", "last")
                       for _ in range(source.randrange(2, 6))])
    lines = []
    while len(lines) < many:
        turn = source.random()
        if turn < 0.65:
            lines += source.choice(pieces)
        elif turn < 0.75:
            lines.append(("back",))
        else:
            lines.append(source.choice([("do", source.choice(words)), ("ask", "t", ("any",)), ("go", "any")]))
    lines = lines[:many - 3] + [("back",), ("do", "last"), ("back",)]
    return [tuple(many - 2 if part == "last" and line[0] == "call" else (source.randrange(many),) if part == ("any",)
                  else source.randrange(many) if part == "any" else part for part in line) for line in lines]


def repeated_code(source, many, words="abc"):
    from calltrim.errors import Endless, TooLong
    while True:
        try:
            return Code(repeated_lines(source, many, words))
        except (Endless, TooLong):
            pass
