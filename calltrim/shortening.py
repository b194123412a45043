"""Shortening codes in stages, with papers."""

from calltrim.codes import Code, is_lines
from calltrim.cuts import best_cut, cut_out
from calltrim.keys import key_holds, key_of
from calltrim.kinds import is_tuple_below
from calltrim.putting import can_put_in, put_in
from calltrim.tidying import check_entries, is_entries, is_shared, shared

GIVEN = "given"
SHARE = "share"
PUT_IN = "put in"
CUT = "cut"


def shorter_stages(code, entries):
    """All that a shared code can be made into: tuples (word, code, entries), those that are put in first."""
    found = []
    for place in range(len(code)):
        if can_put_in(code, entries, place):
            found.append((PUT_IN, *put_in(code, entries, place)))
    cut = best_cut(code, entries)
    if cut is not None:
        found.append((CUT, *cut_out(code, entries, cut)))
    return found


def stages_of(code, entries):
    """The stages as tuples (word, code, entries)."""
    stages = [(GIVEN, code, entries), (SHARE, *shared(code, entries))]
    made = shorter_stages(stages[-1][1], stages[-1][2])
    while made:
        _, shorter, moved = made[0]
        stages.extend([made[0], (SHARE, *shared(shorter, moved))])
        made = shorter_stages(stages[-1][1], stages[-1][2])
    return stages


def shortened(code, entries=(0,)):
    check_entries(code, entries)
    return tuple([(word, made.lines, moved) for word, made, moved in stages_of(code, entries)])


def is_short(code, entries=(0,)):
    check_entries(code, entries)
    return is_shared(code, entries) and not shorter_stages(code, entries)


def short_paper(code, entries=(0,)):
    check_entries(code, entries)
    stages = stages_of(code, entries)
    return tuple([stage_keys(stages[at], stages[at + 1]) for at in range(len(stages) - 1)])


def stage_keys(one, other):
    """A key for each entry of two stages."""
    _, code, entries = one
    _, made, moved = other
    return tuple([key_of(code, (entries[at],), made, (moved[at],)) for at in range(len(entries))])


def is_stage(value, many):
    """Whether value is of the form of a stage with so many entries."""
    if not isinstance(value, tuple) or len(value) != 3 or not is_lines(value[1]):
        return False
    _, lines, entries = value
    return is_tuple_below(entries, len(lines)) and len(entries) == many


def stages_hold(code, entries, stages, paper):
    if not is_entries(code, entries) or not isinstance(stages, tuple) or not isinstance(paper, tuple):
        return False
    if not stages or len(stages) != len(paper) + 1:
        return False
    if not all([is_stage(stage, len(entries)) for stage in stages]) or stages[0] != (GIVEN, code.lines, entries):
        return False
    made = [(word, Code(lines), moved) for word, lines, moved in stages]
    for at in range(1, len(made)):
        # each step makes the code shorter, so there cannot be many that are right
        if not is_step(made[at - 1], made[at]) or not keys_hold(made[at - 1], made[at], paper[at - 1]):
            return False
    word, last, moved = made[-1]
    return word == SHARE and is_short(last, moved)


def is_step(one, other):
    """Whether the stage other may come behind the stage one."""
    ahead, code, entries = one
    word, made, moved = other
    if ahead != SHARE:
        return word == SHARE and len(made) <= len(code) and is_shared(made, moved)
    return any([word == name and made == shorter and moved == there
                for name, shorter, there in shorter_stages(code, entries)])


def keys_hold(one, other, value):
    """Whether value has a key for each entry of two stages."""
    _, code, entries = one
    _, made, moved = other
    if not isinstance(value, tuple) or len(value) != len(entries):
        return False
    return all([key_holds(code, (entries[at],), made, (moved[at],), value[at]) for at in range(len(value))])
