"""Questions about codes and plans, and the claims that may answer them."""

from calltrim.clashes import clashes, forced_saves
from calltrim.cells import least_cells
from calltrim.errors import InvalidClaim, InvalidQuestion
from calltrim.flows import is_slot
from calltrim.forms import is_form, least_events, prime_form
from calltrim.joints import joints
from calltrim.kinds import is_number, is_number_below
from calltrim.placements import is_save, is_saves
from calltrim.plans import Plan
from calltrim.runs import is_row, row_norm
from calltrim.sameness import alike
from calltrim.stacks import depth
from calltrim.tidying import is_entries, reached

# the word of the question that a claim with this word may answer
ASKED = {
    "same": "same", "unlike": "same", "form": "form", "joint": "joint", "no joint": "joint", "events": "events",
    "depth": "depth", "endless": "depth", "reached": "reached", "idle": "reached", "clash": "clash", "apart": "clash",
    "save": "save", "free": "save", "cells": "cells",
}
# how many of the last members of a claim are told by it and not asked
TOLD = {"form": 2, "events": 1, "depth": 1, "cells": 1}


def is_question_of_code(code, word, members):
    if word == "same":
        return len(members) == 2 and is_row(code, members[0]) and is_row(code, members[1])
    if word == "form":
        return len(members) == 1 and is_row(code, members[0])
    if word == "joint":
        if len(members) != 2 or not is_row(code, members[0]):
            return False
        return is_number_below(members[1], row_norm(code, members[0]) + 1)
    if word in ("events", "depth"):
        return len(members) == 1 and is_number_below(members[0], len(code))
    if word == "reached":
        return len(members) == 2 and is_entries(code, members[0]) and is_number_below(members[1], len(code))
    return False


def is_question_of_plan(plan, word, members):
    if word == "clash":
        if len(members) != 3 or not is_saves(plan, members[0]):
            return False
        return is_slot(plan, members[1]) and is_slot(plan, members[2]) and members[1] <= members[2]
    if word == "save":
        return is_save(plan, members)
    return word == "cells" and not members


def is_question(thing, value):
    if not isinstance(value, tuple) or not value or not isinstance(value[0], str):
        return False
    if isinstance(thing, Plan):
        return is_question_of_plan(thing, value[0], value[1:])
    return is_question_of_code(thing, value[0], value[1:])


def asked_and_told(value):
    """The question that a claim may answer, and the members that it tells; None if value has no form of a claim."""
    if not isinstance(value, tuple) or not value or not isinstance(value[0], str) or value[0] not in ASKED:
        return None
    asked = len(value) - TOLD.get(value[0], 0)
    if asked < 1:
        return None
    return (ASKED[value[0]], *value[1:asked]), value[asked:]


def is_claim(thing, value):
    parts = asked_and_told(value)
    if parts is None or not is_question(thing, parts[0]):
        return False
    return is_form(parts[1]) if value[0] == "form" else all([is_number(number) for number in parts[1]])


def check_question(thing, question):
    if not is_question(thing, question):
        raise InvalidQuestion(question)


def question_of(thing, claim):
    if not is_claim(thing, claim):
        raise InvalidClaim(claim)
    question, _ = asked_and_told(claim)
    return question


def answer_of(thing, question):
    check_question(thing, question)
    word = question[0]
    if word == "cells":
        return ("cells", least_cells(thing))
    if word == "form":
        start, rules = prime_form(thing, question[1])
        return ("form", question[1], start, rules)
    if word == "events":
        return ("events", question[1], least_events(thing, question[1]))
    if word == "depth":
        many = depth(thing, question[1])
        return ("endless", question[1]) if many is None else ("depth", question[1], many)
    return answer_by(thing, question)


def answer_by(thing, question):
    """The answer to a question that is answered by yes or no."""
    word, *members = question
    if word == "same":
        return (word if alike(thing, members[0], thing, members[1]) else "unlike", *members)
    if word == "joint":
        return (word if members[1] in joints(thing, members[0]) else "no joint", *members)
    if word == "reached":
        return (word if members[1] in reached(thing, members[0]) else "idle", *members)
    if word == "clash":
        return (word if (members[1], members[2]) in clashes(thing, members[0]) else "apart", *members)
    return (word if tuple(members) in forced_saves(thing) else "free", *members)
