"""Runs, levels and sameness once more, as plainly as the document says them, to compare with."""


def front_of(code, row):
    row = list(row)
    while row and code[row[0]][0] in ("go", "call", "back"):
        line = code[row[0]]
        if line[0] == "go":
            row[:1] = [line[1]]
        elif line[0] == "call":
            row[:1] = [line[1], row[0] + 1]
        else:
            row[:1] = []
    return tuple(place for place in row if code.norms[place] > 0)


class CodeRules:
    """What a row of places of a code meets, and what comes in its place."""

    def __init__(self, code):
        self.code = code

    def front(self, row):
        return front_of(self.code, row)

    def event(self, first):
        return self.code[first][1], len(self.code.leads(first))

    def lead(self, first, answer):
        return (self.code.leads(first)[answer],)

    def norm(self, first):
        return self.code.norms[first]


class FormRules:
    """The same for rows of numbers of rules."""

    def __init__(self, rules):
        self.rules = rules
        self.norms = [None] * len(rules)
        for _ in range(len(rules) + 1):
            for number, (_, rows) in enumerate(rules):
                sums = [1 + sum(self.norms[part] for part in row) for row in rows
                        if all(self.norms[part] is not None for part in row)]
                self.norms[number] = min(sums) if sums else None

    def front(self, row):
        return row

    def event(self, first):
        word, rows = self.rules[first]
        return word, len(rows)

    def lead(self, first, answer):
        return self.rules[first][1][answer]

    def norm(self, first):
        return self.norms[first]


def run_of(rules, row, moves):
    """What the run tells."""
    things, moves = [], list(moves)
    while True:
        row = rules.front(row)
        if not row:
            return (*things, ())
        word, many = rules.event(row[0])
        if not moves:
            return (*things, (word, many))
        answer = moves.pop(0) % many
        things.append((word, many, answer))
        row = rules.lead(row[0], answer) + row[1:]


def level_of(rules, row):
    return sum(rules.norm(member) for member in row)


def after(rules, row, answer):
    return rules.front(rules.lead(row[0], answer) + row[1:])


def differing_moves(one, left, other, right, most):
    """The shortest moves on which the runs differ; None if none show among so many states.

    The second thing returned tells whether all states were seen, so that there are no such moves at all.
    """
    layer = [((), one.front(left), other.front(right))]
    seen = {layer[0][1:]}
    while layer and len(seen) < most:
        following = []
        for moves, mine, theirs in layer:
            if not mine and not theirs:
                continue
            if not mine or not theirs or one.event(mine[0]) != other.event(theirs[0]):
                return moves, False
            for answer in range(one.event(mine[0])[1]):
                state = (after(one, mine, answer), after(other, theirs, answer))
                if state not in seen:
                    seen.add(state)
                    following.append(((*moves, answer), *state))
        layer = following
    return None, not layer


def rows_at_level(rules, row, level, most):
    """Moves that first reach the level and the rows left, no row twice, and whether all rows were found."""
    row = rules.front(row)
    layer, seen, found = [((), row)], {row}, []
    while layer and len(seen) < most:
        following = []
        for moves, here in layer:
            if level_of(rules, here) == level:
                found.append((moves, here))
                continue
            for answer in range(rules.event(here[0])[1]):
                left = after(rules, here, answer)
                if left not in seen:
                    seen.add(left)
                    following.append(((*moves, answer), left))
        layer = following
    return found, not layer


def is_joint(rules, row, level, most=150):
    """Whether the row has a joint at the level, by looking at all that is left; None if that is not told."""
    found, whole = rows_at_level(rules, row, level, most)
    sure = whole
    for _, left in found[1:]:
        moves, told = differing_moves(rules, found[0][1], rules, left, most)
        if moves is not None:
            return False
        sure = sure and told
    return True if sure else None
