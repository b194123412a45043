"""What runs tell whose events read values."""


def told_by(walk, moves):
    """What a walk tells by the moves.

    Its event_line() is the line of the event to which it goes on (None if it returns), its told_ahead(line) what is
    told of this but for the answer, and by go_on(line, move, number) it goes on behind it, the event of this number.
    """
    things = []
    line = walk.event_line()
    for move in moves:
        if line is None:
            break
        name, many, values = walk.told_ahead(line)
        things.append((name, many, values, move % many))
        walk.go_on(line, move, len(things))
        line = walk.event_line()
    things.append(() if line is None else walk.told_ahead(line))
    return tuple(things)
