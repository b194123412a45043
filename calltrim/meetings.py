"""Meetings: what the run of a plan shows of its slots by its own events.

A meeting is a tuple (held, written, p): a value that the slot held has in some activation is read behind an event
that wrote the slot written, in another activation or as another slot. p is the line at which the activation of held
waited then, or ACTIVE if the event was its own. No value is kept here but what is needed to find the meetings.
"""

from calltrim.activations import told_with

ACTIVE = -1


class Meetings:
    """A memory of plan runs that finds the meetings; found has them as the keys of a dict."""

    def __init__(self, commons):
        self.commons = commons
        self.found = {}
        # of each activation, by the slots that hold a value, what was written behind the event that wrote this value
        self.frames = [{}]
        # how many events had written a slot when each call began, and when each slot was written last
        self.begun = []
        self.many = 0
        self.last = {}

    def called(self, place):
        self.begun.append(self.many)
        self.frames.append({})

    def returned(self, place):
        procedure, at = place
        self.frames.pop()
        begun = self.begun.pop()
        met = [written for written in self.last if self.last[written] > begun]
        for behind in list(self.frames[-1].values()):
            for written in met:
                behind[(written, at)] = True

    def read(self, procedure, variable):
        if variable >= self.commons:
            slot = variable - self.commons
            for written, at in self.frames[-1][slot]:
                self.found[((procedure, slot), written, at)] = True
        return 0

    def write(self, procedure, variable, number):
        if variable >= self.commons:
            slot = variable - self.commons
            for behind in list(self.frames[-1].values()):
                behind[((procedure, slot), ACTIVE)] = True
            self.frames[-1][slot] = {}
            self.many += 1
            self.last[(procedure, slot)] = self.many


def meetings_of(plan, moves):
    """The meetings that the run by the moves shows."""
    memory = Meetings(plan.commons)
    told_with(plan, memory, moves)
    return list(memory.found)
