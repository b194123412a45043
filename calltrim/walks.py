"""Stack runs, and ways through a code that show stacks."""

from calltrim.lines import followers_of, is_event_line, leads_of
from calltrim.runs import shortest


class Walk:
    """A stack run: where it stands, its stack, and what it has come to. It stands at None when it has returned."""

    def __init__(self, code, place):
        self.code = code
        self.place = place
        self.stack = []
        self.places = [place]
        self.sizes = [0]
        self.run_silent()

    def come_to(self, place):
        self.place = place
        self.places.append(place)
        self.sizes.append(len(self.stack))

    def run_silent(self):
        """Runs on to an event line or the return."""
        while self.place is not None and not is_event_line(self.code.lines[self.place]):
            line = self.code.lines[self.place]
            if line[0] == "go":
                self.come_to(line[1])
            elif line[0] == "call":
                self.stack.append(self.place + 1)
                self.come_to(line[1])
            elif self.stack:
                self.come_to(self.stack.pop())
            else:
                self.place = None

    def run_by(self, moves):
        for move in moves:
            if self.place is None:
                break
            leads = leads_of(self.code.lines[self.place], self.place)
            self.come_to(leads[move % len(leads)])
            self.run_silent()


def pushes_at(code, place):
    """For each place that follows the line at place a tuple (place, places more on the stack)."""
    line = code.lines[place]
    followers = followers_of(line, place)
    return [(followers[at], 1 if line[0] == "call" and at == 0 else 0) for at in range(len(followers))]


def steps_at(code, place):
    """For each place that follows the line at place a tuple (place, places more on the stack, moves)."""
    line = code.lines[place]
    found = pushes_at(code, place)
    ways = [()] * len(found)
    if is_event_line(line):
        ways = [(answer,) for answer in range(len(found))]
    elif line[0] == "call":
        ways = [(), shortest(code, (line[1],))]
    return [(found[at][0], found[at][1], ways[at]) for at in range(len(found))]


def way_by(steps, start, goals):
    """The moves of a way of fewest steps from start to one of the goals; steps has the tuples of each place."""
    moves = {start: ()}
    layer = [start]
    while layer:
        following = []
        for place in layer:
            if place in goals:
                return moves[place]
            for follower, _, more in steps[place]:
                if follower not in moves:
                    moves[follower] = moves[place] + more
                    following.append(follower)
        layer = following
    return None
