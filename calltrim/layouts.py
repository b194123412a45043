"""Laying out event and call lines anew, with as few lines as there can be.

These lines keep the places where they stood as their names; END is the name of each back line. nexts has for each
of them the name of the line that it goes on to.
"""

from calltrim.codes import Code
from calltrim.lines import led_line, targets_of

END = -1


def kept_nexts(code, entries, names):
    """The nexts of all event and call lines that entries come to; names has the name of the line for each place."""
    nexts = {}
    fresh = [names[place] for place in entries]
    while fresh:
        place = fresh.pop()
        if place != END and place not in nexts:
            nexts[place] = names[place + 1]
            fresh.extend([names[target] for target in (place + 1, *targets_of(code.lines[place]))])
    return nexts


def chains_of(nexts):
    """The lines in rows in which each one goes on to the one behind it; as few rows as there can be."""
    followed = {after: True for after in nexts.values()}
    # lines that are in no row which begins where nothing goes on to are in rings
    heads = [place for place in sorted(nexts) if place not in followed]
    placed = {}
    rows = []
    for head in heads + sorted(nexts):
        row = []
        place = head
        while place != END and place not in placed:
            placed[place] = True
            row.append(place)
            place = nexts[place]
        if row:
            rows.append(row)
    return rows


def stands_alone(nexts):
    """Whether a back line is needed that no line goes on to; one is needed, since all lines return."""
    return END not in list(nexts.values())


def least_lines(nexts):
    """The least number of lines in which all of these can stand; each row ends with a line of its own."""
    return len(nexts) + len(chains_of(nexts)) + (1 if stands_alone(nexts) else 0)


def new_places(rows, nexts):
    """The new place of each name; that of END is the first one there is."""
    at = {}
    many = 0
    for row in rows:
        for place in row:
            at[place] = many
            many += 1
        if nexts[row[-1]] == END:
            at.setdefault(END, many)
        many += 1
    at.setdefault(END, many)
    return at


def laid_out(code, entries, names):
    """The tuple (code, entries) of the lines that entries come to, each place replaced by its name."""
    nexts = kept_nexts(code, entries, names)
    rows = chains_of(nexts)
    at = new_places(rows, nexts)
    leads = {place: at[names[place]] for place in names if names[place] in at}
    lines = []
    for row in rows:
        after = nexts[row[-1]]
        # a row that leads to no other back line than its own can be put in
        end = at[row[-1]] + 1 if after == END else at[END]
        own = {place: end if names[place] == END else leads[place] for place in leads}
        lines.extend([led_line(code.lines[place], own) for place in row])
        lines.append(("back",) if after == END else ("go", at[after]))
    if stands_alone(nexts):
        lines.append(("back",))
    return Code(lines), tuple([leads[place] for place in entries])
