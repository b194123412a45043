"""Runs of plans, led line by line.

What the variables hold is left to a memory. It has the methods called(place) and returned(place), place that of the
call line, and read(procedure, variable) and write(procedure, variable, number), number that of the event.
"""

from calltrim.flows import line_at
from calltrim.lines import is_event_line
from calltrim.planlines import behind_line
from calltrim.tellings import told_by


class PlanWalk:
    """Where a run of a plan stands, and the places of the call lines at which activations wait."""

    def __init__(self, plan, memory):
        self.plan = plan
        self.memory = memory
        self.place = (0, 0)
        self.waiting = []

    def event_line(self):
        """The event line to which the run goes on; None if it returns."""
        while True:
            line = line_at(self.plan, self.place)
            if is_event_line(line):
                return line
            if line[0] == "go":
                self.place = (self.place[0], line[1])
            elif line[0] == "call":
                self.memory.called(self.place)
                self.waiting.append(self.place)
                self.place = (line[1], 0)
            elif self.waiting:
                procedure, at = self.waiting.pop()
                self.memory.returned((procedure, at))
                self.place = (procedure, at + 1)
            else:
                return None

    def told_ahead(self, line):
        """What is told of the event but for its answer."""
        values = tuple([self.memory.read(self.place[0], variable) for variable in line[2]])
        return line[1], len(behind_line(line, 0)), values

    def go_on(self, line, move, number):
        if line[0] == "do":
            for variable in line[3]:
                self.memory.write(self.place[0], variable, number)
        leads = behind_line(line, self.place[1])
        self.place = (self.place[0], leads[move % len(leads)])


def told_with(plan, memory, moves):
    """What the run by the moves tells if its variables are kept by the memory."""
    return told_by(PlanWalk(plan, memory), moves)


class Variables:
    """The memory of plan_run: common variables, and slots of each activation."""

    def __init__(self, commons):
        self.commons = commons
        self.held = {}
        self.frames = [{}]

    def called(self, place):
        self.frames.append({})

    def returned(self, place):
        self.frames.pop()

    def read(self, procedure, variable):
        if variable < self.commons:
            return self.held.get(variable, 0)
        return self.frames[-1][variable]

    def write(self, procedure, variable, number):
        if variable < self.commons:
            self.held[variable] = number
        else:
            self.frames[-1][variable] = number
