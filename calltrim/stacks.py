"""Stack runs, and how deep the stack can grow, with papers."""

from calltrim.kinds import is_number, is_number_below
from calltrim.lines import is_event_line, places_from
from calltrim.runs import check_moves, check_place, is_moves
from calltrim.walks import Walk, pushes_at, steps_at, way_by


def stack_run(code, place, moves):
    check_place(code, place)
    check_moves(moves)
    walk = Walk(code, place)
    walk.run_by(moves)
    return () if walk.place is None else (walk.place, tuple(walk.stack))


def growing_call(code, place):
    """A call line that place comes to and that its own target comes to; None if there is none."""
    for met in sorted(places_from(code.lines, (place,))):
        line = code.lines[met]
        if line[0] == "call" and met in places_from(code.lines, (line[1],)):
            return met
    return None


def depths_from(code, place):
    """The depth of each place that place comes to; no call that it comes to may grow."""
    depths = {met: 0 for met in places_from(code.lines, (place,))}
    better = True
    while better:
        better = False
        for met in sorted(depths, reverse=True):
            most = max([0] + [depths[follower] + more for follower, more in pushes_at(code, met)])
            if most > depths[met]:
                depths[met] = most
                better = True
    return depths


def depth(code, place):
    check_place(code, place)
    return None if growing_call(code, place) is not None else depths_from(code, place)[place]


def depth_paper(code, place):
    check_place(code, place)
    call = growing_call(code, place)
    return deepest_paper(code, place) if call is None else growing_paper(code, place, call)


def deepest_paper(code, place):
    depths = depths_from(code, place)
    steps = {}
    for met in depths:
        # only steps behind which the stack can still grow to the depth
        steps[met] = [step for step in steps_at(code, met) if depths[step[0]] + step[1] == depths[met]]
    moves = way_by(steps, place, [met for met in depths if depths[met] == 0])
    return moves, tuple([depths.get(met, -1) for met in range(len(code))])


def growing_paper(code, place, call):
    steps = [steps_at(code, met) for met in range(len(code))]
    target = code.lines[call][1]
    # there is one, or the call would never return
    event = min([met for met in places_from(code.lines, (target,)) if is_event_line(code.lines[met])
                 and call in places_from(code.lines, (met,))])
    return way_by(steps, place, [event]), way_by(steps, event, [call]) + way_by(steps, target, [event])


def depth_holds(code, place, many, paper):
    if not is_number_below(place, len(code)) or not isinstance(paper, tuple) or len(paper) != 2:
        return False
    if many is None:
        return shows_growth(code, place, paper[0], paper[1])
    return is_number(many) and shows_depth(code, place, many, paper[0], paper[1])


def shows_depth(code, place, many, moves, numbers):
    if not is_moves(moves) or not are_bounds(code, numbers) or numbers[place] != many:
        return False
    walk = Walk(code, place)
    walk.run_by(moves)
    return many in walk.sizes


def are_bounds(code, value):
    """Whether value has an integer for each line that is -1 or bounds the stack from there on."""
    if not isinstance(value, tuple) or len(value) != len(code):
        return False
    if not all([is_number(bound) or bound == -1 for bound in value]):
        return False
    return all([value[place] == -1 or bounds_at(code, value, place) for place in range(len(code))])


def bounds_at(code, bounds, place):
    followers = pushes_at(code, place)
    return all([bounds[follower] != -1 and bounds[follower] + more <= bounds[place] for follower, more in followers])


def shows_growth(code, place, moves, more):
    if not is_moves(moves) or not is_moves(more):
        return False
    walk = Walk(code, place)
    walk.run_by(moves)
    at, many, met = walk.place, len(walk.stack), len(walk.sizes)
    walk.run_by(more)
    # a stack that never had fewer places still begins as it did, and that of a run that has returned is empty
    if walk.place != at or len(walk.stack) <= many:
        return False
    return min(walk.sizes[met:]) >= many
