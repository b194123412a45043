"""Skimmed codes, which have no needless lines, and shared ones, in which no two lines do the same."""

from calltrim.errors import InvalidEntries
from calltrim.kinds import is_tuple_below
from calltrim.layouts import END, kept_nexts, laid_out, least_lines
from calltrim.lines import places_from, targets_of
from calltrim.primes import signs_of
from calltrim.runs import check_place

MOST_ENTRIES = 4


def is_entries(code, value):
    return is_tuple_below(value, len(code)) and 1 <= len(value) <= MOST_ENTRIES


def check_entries(code, entries):
    if not is_entries(code, entries):
        raise InvalidEntries(entries)


def reached(code, entries=(0,)):
    check_entries(code, entries)
    return tuple(sorted(places_from(code.lines, entries)))


def landed(code, place):
    check_place(code, place)
    while code.lines[place][0] == "go":
        place = code.lines[place][1]
    return place


def skimmed_place(code, place):
    """The place of the event or call line at which a run from place comes to do something; END if there is none."""
    while code.norms[place] > 0:
        line = code.lines[place]
        if line[0] == "go":
            place = line[1]
        elif line[0] == "call" and code.norms[line[1]] == 0:
            place = place + 1
        elif line[0] == "call" and code.norms[place + 1] == 0:
            place = line[1]
        else:
            return place
    return END


def skimmed_names(code):
    return {place: skimmed_place(code, place) for place in range(len(code))}


def is_idle_at(code, place):
    """Whether the line at place is one that a skimmed code does not have there."""
    line = code.lines[place]
    if line[0] == "go":
        return line[1] == place + 1 or code.lines[line[1]] == ("back",)
    return line[0] == "call" and 0 in (code.norms[line[1]], code.norms[place + 1])


def is_skimmed(code, entries=(0,)):
    check_entries(code, entries)
    if len(places_from(code.lines, entries)) < len(code):
        return False
    targets = list(entries)
    for line in code.lines:
        targets.extend(targets_of(line))
    if any([code.lines[target][0] == "go" for target in targets]):
        return False
    return not any([is_idle_at(code, place) for place in range(len(code))])


def skimmed(code, entries=(0,)):
    check_entries(code, entries)
    return laid_out(code, entries, skimmed_names(code))


def has_twins(code):
    """Whether two places of event or call lines do the same."""
    signs = signs_of(code)
    places = [place for place in range(len(code)) if code.lines[place][0] in ("do", "ask", "call")]
    return len(set([signs[place] for place in places])) < len(places)


def is_shared(code, entries=(0,)):
    check_entries(code, entries)
    if not is_skimmed(code, entries) or has_twins(code):
        return False
    return len(code) == least_lines(kept_nexts(code, entries, skimmed_names(code)))


def shared(code, entries=(0,)):
    check_entries(code, entries)
    names = skimmed_names(code)
    signs = signs_of(code)
    first = {(): END}
    for place in sorted(kept_nexts(code, entries, names)):
        first.setdefault(signs[place], place)
    # places that entries do not come to may do what none does to which they come
    alike = {place: first[signs[place]] for place in names if signs[place] in first}
    return laid_out(code, entries, alike)
