"""Moves whose runs show the causes of clashes."""

from calltrim.flows import slots_read_at, slots_written_at
from calltrim.runs import shortest
from calltrim.walks import steps_at, way_by


def ways_by(steps, start):
    """For each place that start comes to the moves of a way of fewest steps and the places behind calls that wait.

    Steps are tuples (place, places more on the stack, moves); there is a list of them for each place.
    """
    found = {start: ((), ())}
    layer = [start]
    while layer:
        following = []
        for place in layer:
            moves, waiting = found[place]
            for follower, more, ahead in steps[place]:
                if follower not in found:
                    found[follower] = (moves + ahead, waiting + ((place + 1,) if more else ()))
                    following.append(follower)
        layer = following
    return found


class Showings:
    """Finds moves that show causes of clashes in a plan; its places are meant as those of the plan's skeleton."""

    def __init__(self, plan):
        self.plan = plan
        self.onward = [steps_at(plan.skeleton, place) for place in range(len(plan.skeleton))]
        self.ways = ways_by(self.onward, 0)

    def writes(self, place, slot):
        return slot in slots_written_at(self.plan, self.plan.places[place])

    def reads(self, place, slot):
        return slot in slots_read_at(self.plan, self.plan.places[place])

    def way_to_read(self, place, slot):
        """Moves to a line that reads the slot, which is wanted at place, in the same activation."""
        steps = []
        for at in range(len(self.onward)):
            steps.append([] if self.writes(at, slot) else [step for step in self.onward[at] if step[1] == 0])
        return way_by(steps, place, [at for at in range(len(steps)) if self.reads(at, slot)])

    def way_of_call(self, start, slot):
        """Moves of a call of the procedure that begins at start, up to its return; an event of it writes the slot."""
        ways = ways_by(self.onward, start)
        event = [place for place in ways if self.writes(place, slot)][0]
        moves, waiting = ways[event]
        moves = moves + (0,)
        for place in (event + 1, *waiting[::-1]):
            moves = moves + shortest(self.plan.skeleton, (place,))
        return moves

    def moves_of(self, cause):
        """Moves that show the cause, which must be one by the least facts."""
        (f, p), held, written = cause
        place = self.plan.starts[f] + p
        line = self.plan.skeleton.lines[place]
        event = self.way_of_call(line[1], written) if line[0] == "call" else (0,)
        return self.ways[place][0] + event + self.way_to_read(place + 1, held)


def cause_moves(plan, cause):
    return Showings(plan).moves_of(cause)
