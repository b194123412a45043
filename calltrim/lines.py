"""Single lines of a code: where they go on, their texts, and their targets when lines move."""

from calltrim.closures import closure

EVENT_KINDS = ("do", "ask")
END_KINDS = ("go", "back")
MOST_FIGURES = 12


def is_event_line(line):
    return line[0] in EVENT_KINDS


def ends_well(line):
    """Whether a line may be the last one of a code."""
    return line[0] in END_KINDS


def leads_of(line, place):
    """The places where the event line at place goes on, by answer."""
    return (place + 1, *line[2]) if line[0] == "ask" else (place + 1,)


def silent_row(line, place):
    """The row of places that comes in place of a go, call or back line."""
    if line[0] == "go":
        return (line[1],)
    if line[0] == "call":
        return (line[1], place + 1)
    return ()


def followers_of(line, place):
    """The places that follow the line at place."""
    return leads_of(line, place) if is_event_line(line) else silent_row(line, place)


def places_from(lines, starts):
    """The starts and all places that follow these, as the keys of a dict."""
    return closure(starts, {place: followers_of(lines[place], place) for place in range(len(lines))})


def targets_of(line):
    if line[0] == "ask":
        return line[2]
    return (line[1],) if line[0] in ("go", "call") else ()


def led_line(line, at):
    """The line with each of its targets replaced by what at has for it."""
    if line[0] == "ask":
        return ("ask", line[1], tuple([at[target] for target in line[2]]))
    if line[0] in ("go", "call"):
        return (line[0], at[line[1]])
    return line


def moved_target(target, least, by):
    return target + by if target >= least else target


def moved_line(line, least, by):
    """The line with all its targets from least on changed by the integer by."""
    return led_line(line, {target: moved_target(target, least, by) for target in targets_of(line)})


def line_text(line):
    if line[0] == "ask":
        return " ".join(["ask", line[1], *[str(target) for target in line[2]]])
    return " ".join([str(part) for part in line])


def number_of(text):
    """The number whose figures these are; None if it is none, or has needless zeros."""
    if not 1 <= len(text) <= MOST_FIGURES or any([figure not in "0123456789" for figure in text]):
        return None
    return int(text) if text == "0" or text[0] != "0" else None


def parsed_line(text):
    """What the text would be as a line; its word and targets may still be none."""
    parts = text.split(" ")
    if parts[0] == "ask" and len(parts) > 1:
        return ("ask", parts[1], tuple([number_of(part) for part in parts[2:]]))
    if parts[0] in ("go", "call") and len(parts) == 2:
        return (parts[0], number_of(parts[1]))
    return tuple(parts)
