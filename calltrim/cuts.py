"""Cutting pieces that come again out into procedures."""

from calltrim.codes import Code, MOST_LINES
from calltrim.errors import InvalidCut, TooLarge
from calltrim.kinds import is_number, is_number_below, is_tuple_below
from calltrim.lines import led_line, targets_of
from calltrim.tidying import check_entries

STRETCH_KINDS = ("do", "call")
LEAST_LENGTH = 2


def stretch_at(code, place, length):
    """The stretch of so many lines that begins at place; None if there is none."""
    lines = code.lines[place:place + length]
    if len(lines) < length or any([line[0] not in STRETCH_KINDS for line in lines]):
        return None
    return lines


def aims_of(code, entries):
    """All entries and targets, as the keys of a dict."""
    targets = [target for line in code.lines for target in targets_of(line)]
    return {place: True for place in targets + list(entries)}


def is_free(aims, place, length):
    """Whether none of the lines behind the first one of a stretch is an entry or a target."""
    return not any([inner in aims for inner in range(place + 1, place + length)])


def is_body(code, body, length, places):
    """Whether a stretch begins at body that is a procedure for those at places."""
    if stretch_at(code, body, length) != stretch_at(code, places[0], length):
        return False
    # no stretch is at the end of a code, so a line follows
    return code.lines[body + length] == ("back",) and all([abs(body - place) >= length for place in places])


def are_cut_places(code, entries, places, length):
    """Whether stretches begin at places that can be cut out together."""
    stretch = stretch_at(code, places[0], length)
    if stretch is None or any([stretch_at(code, place, length) != stretch for place in places]):
        return False
    if any([places[at + 1] - places[at] < length for at in range(len(places) - 1)]):
        return False
    aims = aims_of(code, entries)
    return all([is_free(aims, place, length) for place in places])


def is_cut(code, entries, value):
    check_entries(code, entries)
    if not isinstance(value, tuple) or len(value) != 3:
        return False
    length, places, body = value
    if not is_number(length) or length < LEAST_LENGTH or not is_tuple_below(places, len(code)) or not places:
        return False
    if not are_cut_places(code, entries, places, length):
        return False
    return body is None or (is_number_below(body, len(code)) and is_body(code, body, length, places))


def saved(cut):
    length, places, body = cut
    return len(places) * (length - 1) - (length + 1 if body is None else 0)


def cut_out(code, entries, cut):
    if not is_cut(code, entries, cut):
        raise InvalidCut(cut)
    length, places, body = cut
    gone = {inner: True for place in places for inner in range(place + 1, place + length)}
    kept = [place for place in range(len(code)) if place not in gone]
    at = {kept[new]: new for new in range(len(kept))}
    called = len(kept) if body is None else at[body]
    lines = [("call", called) if place in places else led_line(code.lines[place], at) for place in kept]
    if body is None:
        lines.extend([led_line(line, at) for line in stretch_at(code, places[0], length)])
        lines.append(("back",))
    if len(lines) > MOST_LINES:
        raise TooLarge(len(lines))
    return Code(lines), tuple([at[entry] for entry in entries])


def stretches_by_lines(code, length):
    """The places where stretches of so many lines begin, by these lines."""
    found = {}
    for place in range(len(code)):
        stretch = stretch_at(code, place, length)
        if stretch is not None:
            found.setdefault(stretch, []).append(place)
    return list(found.values())


def most_places(places, length, body):
    """As many of the ascending places as do not overlap, the first ones, without those that overlap the body."""
    chosen = []
    for place in places:
        apart = not chosen or place - chosen[-1] >= length
        if apart and (body is None or abs(body - place) >= length):
            chosen.append(place)
    return tuple(chosen)


def cuts_of_length(code, entries, length):
    """For all equal stretches and each body, or none, the cut that saves the most lines."""
    aims = aims_of(code, entries)
    cuts = []
    for places in stretches_by_lines(code, length):
        free = [place for place in places if is_free(aims, place, length)]
        bodies = [place for place in places if code.lines[place + length] == ("back",)]
        for body in [None] + bodies:
            chosen = most_places(free, length, body)
            if chosen:
                cuts.append((length, chosen, body))
    return cuts


def rank_of(cut, many):
    """The best cut of a code of many lines has the least one."""
    length, places, body = cut
    return -saved(cut), -length, many if body is None else body, places


def best_cut(code, entries=(0,)):
    check_entries(code, entries)
    many = len(code)
    cuts = [cut for length in range(LEAST_LENGTH, many) for cut in cuts_of_length(code, entries, length)]
    ranks = [rank_of(cut, many) for cut in cuts if saved(cut) > 0]
    if not ranks:
        return None
    _, less, body, places = min(ranks)
    return -less, places, None if body == many else body
