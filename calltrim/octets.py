"""The octets of images: how lines are written in them, which ones can be read, and what is read.

A do line is 1 and the number of its word; a back line 2; a go line 3 and an address; a call line 4 and an address;
an ask line 5, the number of its word, the number of its targets, and the number at which these stand in the area.
"""

from calltrim.areas import least_stand
from calltrim.codes import MOST_LINES, MOST_TARGETS
from calltrim.kinds import is_number_below
from calltrim.lines import targets_of

OCTETS_BELOW = 256
# the kinds of lines and how many octets they take, by the numbers of their operations
KINDS = ("", "do", "back", "go", "call", "ask")
SPANS = (0, 2, 1, 2, 2, 4)
DO = 1
BACK = 2
GO = 3
CALL = 4
ASK = 5


def addresses_of(lines):
    """The number of the octet at which each line begins."""
    addresses = []
    here = 1
    for line in lines:
        addresses.append(here)
        here += SPANS[KINDS.index(line[0])]
    return addresses


def end_of(lines):
    """The number of the octet behind all lines."""
    return 1 + sum([SPANS[KINDS.index(line[0])] for line in lines])


def line_octets(line, addresses, words, area):
    """The octets of a line; area is a row of places in which the targets of ask lines stand."""
    operation = KINDS.index(line[0])
    if operation == ASK:
        return [operation, words.index(line[1]), len(line[2]), least_stand(line[2], area)]
    if operation == DO:
        return [operation, words.index(line[1])]
    return [operation] + [addresses[target] for target in targets_of(line)]


def written(lines, words, area):
    addresses = addresses_of(lines)
    octets = [len(lines)]
    for line in lines:
        octets.extend(line_octets(line, addresses, words, area))
    return tuple(octets + [addresses[place] for place in area])


def are_octets(value):
    return isinstance(value, (list, tuple)) and all([is_number_below(octet, OCTETS_BELOW) for octet in value])


def limits_of(operation, many):
    """For each octet behind the operation of a line its least value and the one that it must be below."""
    if operation == ASK:
        return [(0, many), (1, MOST_TARGETS + 1), (0, OCTETS_BELOW)]
    if operation == DO:
        return [(0, many)]
    return [(0, OCTETS_BELOW)] * (SPANS[operation] - 1)


def wrong_in_line(octets, at, many, last):
    """The first wrong octet of the line that begins at an octet; None if there is none. There are many words."""
    if at >= len(octets):
        return len(octets)
    operation = octets[at]
    if not DO <= operation <= ASK or (last and operation not in (BACK, GO)):
        return at
    for low, high in limits_of(operation, many):
        at += 1
        if at >= len(octets) or not low <= octets[at] < high:
            return at
    return None


def wrong_address(octets, addresses, end):
    """The first wrong octet of those that lead to lines; None if there is none. The area begins at end."""
    for at in addresses:
        if octets[at] in (GO, CALL) and octets[at + 1] not in addresses:
            return at + 1
        if octets[at] == ASK and octets[at + 3] + octets[at + 2] > len(octets) - end:
            return at + 3
    for at in range(end, len(octets)):
        if octets[at] not in addresses:
            return at
    return None


def first_wrong_octet(octets, many):
    """The number of the octet that is wrong with so many words; None if there is none."""
    if not are_octets(octets) or not octets or not 1 <= octets[0] <= MOST_LINES:
        return 0
    addresses = []
    at = 1
    for line in range(octets[0]):
        wrong = wrong_in_line(octets, at, many, line == octets[0] - 1)
        if wrong is not None:
            return wrong
        addresses.append(at)
        at += SPANS[octets[at]]
    return wrong_address(octets, addresses, at)


def read_line(words, octets, at, places, end):
    """The line that begins at an octet; places has the place for each address, the area begins at end."""
    operation = octets[at]
    if operation == ASK:
        first = end + octets[at + 3]
        area = octets[first:first + octets[at + 2]]
        return ("ask", words[octets[at + 1]], tuple([places[address] for address in area]))
    if operation == DO:
        return ("do", words[octets[at + 1]])
    return (KINDS[operation], *[places[address] for address in octets[at + 1:at + SPANS[operation]]])


def read_lines(words, octets):
    """The lines of octets in which none is wrong."""
    places = {}
    at = 1
    for place in range(octets[0]):
        places[at] = place
        at += SPANS[octets[at]]
    return tuple([read_line(words, octets, address, places, at) for address in places])
