"""Plans, their runs and facts as plainly as the document says them, to compare with."""

from calltrim.words import word_of


def line_of(plan, place):
    return plan.procedures[place[0]][1][place[1]]


def all_places(plan):
    return [(f, p) for f, (_, lines) in enumerate(plan.procedures) for p in range(len(lines))]


def all_slots(plan):
    return [(f, s) for f, (slots, _) in enumerate(plan.procedures) for s in range(slots)]


def followers(plan, place):
    """The places of its procedure that follow a place."""
    f, p = place
    line = line_of(plan, place)
    ahead = {"do": (p + 1,), "call": (p + 1,), "back": ()}.get(line[0])
    if ahead is None:
        ahead = (line[1],) if line[0] == "go" else (p + 1, *line[3])
    return [(f, q) for q in ahead]


def slots_in(plan, line, part):
    """The slots that a line reads (part 2) or writes (part 3)."""
    if line[0] == "do" or (line[0] == "ask" and part == 2):
        return [variable - plan.commons for variable in line[part] if variable >= plan.commons]
    return []


def reads_of(plan, place):
    return slots_in(plan, line_of(plan, place), 2)


def writes_of(plan, place):
    return slots_in(plan, line_of(plan, place), 3)


def is_wanted(plan, place, s):
    """Whether on some way from the place on a line reads s ahead of any line that writes it."""
    seen, fresh = set(), [place]
    while fresh:
        here = fresh.pop()
        if here in seen:
            continue
        seen.add(here)
        if s in reads_of(plan, here):
            return True
        if s not in writes_of(plan, here):
            fresh += followers(plan, here)
    return False


def all_saves(plan):
    return [(f, p, s) for f, p in all_places(plan) if line_of(plan, (f, p))[0] == "call"
            for s in range(plan.procedures[f][0]) if is_wanted(plan, (f, p + 1), s)]


class Activation:
    def __init__(self, f):
        self.place = (f, 0)
        self.slots = {}


class Run:
    """A run with all that it comes to: its things told, and a list of events with the stack that stood then.

    An event is (number, place, reads, write, stack): reads of the slots as (activation, slot, value), write as
    (activation, slot) or None, stack as a list of (activation, place).
    """

    def __init__(self, plan, moves, cells=None, saves=()):
        self.plan, self.moves, self.cells, self.saves = plan, moves, cells, saves
        self.common = [0] * plan.commons
        self.content = [0] * 16
        self.stack = [Activation(0)]
        self.kept = []
        self.told, self.events = [], []
        self.lead()

    def cell(self, variable):
        if variable < self.plan.commons:
            return variable
        return self.cells[self.stack[-1].place[0]][variable - self.plan.commons]

    def value(self, variable):
        if self.cells is not None:
            return self.content[self.cell(variable)]
        if variable < self.plan.commons:
            return self.common[variable]
        return self.stack[-1].slots[variable - self.plan.commons]

    def write(self, variable, number):
        if self.cells is not None:
            self.content[self.cell(variable)] = number
        if variable < self.plan.commons:
            self.common[variable] = number
        else:
            self.stack[-1].slots[variable - self.plan.commons] = number

    def lead(self):
        moves = list(self.moves)
        while True:
            last = self.stack[-1]
            line = line_of(self.plan, last.place)
            f, p = last.place
            if line[0] == "go":
                last.place = (f, line[1])
            elif line[0] == "call":
                saved = [(self.cells[f][s] if self.cells else 0) for g, q, s in self.saves if (g, q) == (f, p)]
                self.kept.append([(cell, self.content[cell]) for cell in saved])
                self.stack.append(Activation(line[1]))
            elif line[0] == "back":
                self.stack.pop()
                if not self.stack:
                    self.told.append(())
                    return
                for cell, content in self.kept.pop():
                    self.content[cell] = content
                g, q = self.stack[-1].place
                self.stack[-1].place = (g, q + 1)
            elif not moves:
                self.event(line, None)
                return
            else:
                self.event(line, moves.pop(0))

    def event(self, line, move):
        last, number = self.stack[-1], len(self.events) + 1
        answers = 1 if line[0] == "do" else 1 + len(line[3])
        values = tuple(self.value(variable) for variable in line[2])
        reads = [(last, v - self.plan.commons, last.slots.get(v - self.plan.commons))
                 for v in line[2] if v >= self.plan.commons]
        stack = [(activation, activation.place) for activation in self.stack]
        if move is None:
            self.told.append((line[1], answers, values))
            self.events.append((number, last.place, reads, None, stack))
            return
        self.told.append((line[1], answers, values, move % answers))
        written = None
        for variable in line[3] if line[0] == "do" else ():
            self.write(variable, number)
            if variable >= self.plan.commons:
                written = (last, variable - self.plan.commons)
        self.events.append((number, last.place, reads, written, stack))
        f, p = last.place
        leads = [p + 1, *(line[3] if line[0] == "ask" else ())]
        last.place = (f, leads[move % answers])


def plan_told(plan, moves):
    return tuple(Run(plan, moves).told)


def cells_told(plan, placement, saves, moves):
    return tuple(Run(plan, moves, placement, saves).told)


def shown(plan, moves):
    """All (held, written, place of the waiting call or None) that the run by the moves shows."""
    events = Run(plan, moves).events
    found = set()
    for number, place, _, written, stack in events:
        if written is None:
            continue
        writer = (place[0], written[1])
        for _, _, reads, _, _ in events[number:]:
            for activation, s, value in reads:
                for waiting, at in stack:
                    if waiting is activation and value < number and (activation, s) != written:
                        found.add(((at[0], s), writer, None if at == place and activation is written[0] else at))
    return found


def shows_clash_as_written(plan, saves, x, y, moves):
    for held, written, at in shown(plan, moves):
        safe = at is not None and (*at, held[1]) in saves
        if not safe and {held, written} == {x, y}:
            return True
    return False


def shows_forced_as_written(plan, save, moves):
    f, p, s = save
    return ((f, s), (f, s), (f, p)) in shown(plan, moves)


def covers_as_written(plan, facts):
    """Whether facts, well made, cover the plan."""
    reached, wanted, written = facts
    if (0, 0) not in reached:
        return False
    for f, p in reached:
        line = line_of(plan, (f, p))
        if any(q not in reached for q in followers(plan, (f, p))):
            return False
        if line[0] == "call" and (line[1], 0) not in reached:
            return False
        if any((f, p, s) not in wanted for s in reads_of(plan, (f, p))):
            return False
        for _, q in followers(plan, (f, p)):
            for s in range(plan.procedures[f][0]):
                if (f, q, s) in wanted and s not in writes_of(plan, (f, p)) and (f, p, s) not in wanted:
                    return False
        if any((f, f, t) not in written for t in writes_of(plan, (f, p))):
            return False
        if line[0] == "call":
            if any((f, h, t) not in written for g, h, t in written if g == line[1]):
                return False
    return True


def are_facts_as_written(plan, value):
    if type(value) is not tuple or len(value) != 3 or any(type(part) is not tuple for part in value):
        return False
    reached, wanted, written = value

    def numbers(fact, many):
        return type(fact) is tuple and len(fact) == many and all(type(part) is int for part in fact)

    if not all(numbers(fact, 2) and fact in all_places(plan) for fact in reached):
        return False
    if not all(numbers(fact, 3) and fact[:2] in all_places(plan) and (fact[0], fact[2]) in all_slots(plan)
               for fact in wanted):
        return False
    if not all(numbers(fact, 3) and 0 <= fact[0] < len(plan.procedures) and fact[1:] in all_slots(plan)
               for fact in written):
        return False
    return all(list(part) == sorted(set(part)) for part in value)


def apart_as_written(plan, saves, x, y, facts):
    """Whether facts that cover the plan keep two slots apart."""
    reached, wanted, written = facts
    for one, other in ((x, y), (y, x)):
        for f, p in reached:
            line = line_of(plan, (f, p))
            if one[0] == f and one[1] in writes_of(plan, (f, p)) and other[0] == f and other != one:
                if any((f, q, other[1]) in wanted for _, q in followers(plan, (f, p))):
                    return False
            if line[0] == "call" and one[0] == f and (f, p + 1, one[1]) in wanted and (f, p, one[1]) not in saves:
                if (line[1], *other) in written:
                    return False
    return True


def keep_apart_as_written(plan, saves, x, y, value):
    if type(x) is not tuple or type(y) is not tuple or x not in all_slots(plan) or y not in all_slots(plan):
        return False
    if any(type(part) is not int for part in x + y) or not are_facts_as_written(plan, value):
        return False
    return covers_as_written(plan, value) and apart_as_written(plan, saves, x, y, value)


def placed_lines(plan, placement, saves):
    """The lines of the placed code, whatever their number."""
    at, here = {}, 0
    for place in all_places(plan):
        at[place] = here
        here += 1 + 2 * sum(save[:2] == place for save in saves)
    lines = []
    for f, p in all_places(plan):
        line = line_of(plan, (f, p))

        def cells(variables):
            return tuple(v if v < plan.commons else placement[f][v - plan.commons] for v in variables)

        if line[0] == "do":
            lines.append(("do", word_of(line[1], cells(line[2]), cells(line[3]))))
        elif line[0] == "ask":
            lines.append(("ask", word_of(line[1], cells(line[2]), ()), tuple(at[f, q] for q in line[3])))
        elif line[0] == "go":
            lines.append(("go", at[f, line[1]]))
        elif line[0] == "call":
            saved = [placement[f][save[2]] for save in saves if save[:2] == (f, p)]
            lines += [("do", f"push.{cell}") for cell in saved]
            lines.append(("call", at[line[1], 0]))
            lines += [("do", f"pop>{cell}") for cell in reversed(saved)]
        else:
            lines.append(line)
    return tuple(lines)
