"""Single lines of plans: which ones are well made, what they read and write, and where they go on."""

from calltrim.codes import is_targets
from calltrim.kinds import is_number_below, is_tuple_below
from calltrim.words import MOST_READS, MOST_WRITES, is_name

# names of lines that save the contents of cells
PUSH = "push"
POP = "pop"


def is_plan_name(value):
    return is_name(value) and value not in (PUSH, POP)


def is_variables(value, many, most):
    """Whether value is a tuple of at most so many variables, of which there are many."""
    return is_tuple_below(value, many) and len(value) <= most


def is_plan_line(value, variables, places, procedures):
    """Whether value is a line of a procedure; the others are numbers: of its variables, places, all procedures."""
    if not isinstance(value, tuple) or not value:
        return False
    if value[0] == "do" or value[0] == "ask":
        if len(value) != 4 or not is_plan_name(value[1]) or not is_variables(value[2], variables, MOST_READS):
            return False
        return is_variables(value[3], variables, MOST_WRITES) if value[0] == "do" else is_targets(value[3], places)
    if value[0] == "go":
        return len(value) == 2 and is_number_below(value[1], places)
    if value[0] == "call":
        return len(value) == 2 and is_number_below(value[1], procedures)
    return value[0] == "back" and len(value) == 1


def behind_line(line, place):
    """The places of its procedure that follow the line at place; a call line goes on to the next one."""
    if line[0] == "ask":
        return (place + 1, *line[3])
    if line[0] == "go":
        return (line[1],)
    return () if line[0] == "back" else (place + 1,)


def slots_of(variables, commons):
    return [variable - commons for variable in variables if variable >= commons]


def slots_read(line, commons):
    return slots_of(line[2], commons) if line[0] in ("do", "ask") else []


def slots_written(line, commons):
    return slots_of(line[3], commons) if line[0] == "do" else []


def flat_line(line, start, starts):
    """The line as one of a code in which its procedure begins at start; starts has this of all procedures."""
    if line[0] == "do":
        return ("do", line[1])
    if line[0] == "ask":
        return ("ask", line[1], tuple([start + target for target in line[3]]))
    if line[0] == "go":
        return ("go", start + line[1])
    return ("call", starts[line[1]]) if line[0] == "call" else line
