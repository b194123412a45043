"""Questions, claims and papers as plainly as the document says them, to compare with, and random questions."""

from calltrim.forms import is_form, prime_form
from calltrim.plans import Plan
from cell_reference import cells_paper_as_written
from paperwork import (
    are_numbers, form_paper_as_written, is_place_row, is_plain_number, key_as_written, table_as_written,
    worth_as_written)
from plan_reference import (
    all_saves, all_slots, are_facts_as_written, covers_as_written, keep_apart_as_written, line_of,
    shows_clash_as_written, shows_forced_as_written)
from plan_support import random_saves
from reference import CodeRules, FormRules, after, level_of, run_of
from support import is_plain, random_row
from test_stacks import depth_as_written
from tidy_reference import followers_at

# the words of claims with the word of their question, and how many members they tell
CLAIM_WORDS = {
    "same": ("same", 0), "unlike": ("same", 0), "form": ("form", 2), "joint": ("joint", 0), "no joint": ("joint", 0),
    "events": ("events", 1), "depth": ("depth", 1), "endless": ("depth", 0), "reached": ("reached", 0),
    "idle": ("reached", 0), "clash": ("clash", 0), "apart": ("clash", 0), "save": ("save", 0), "free": ("save", 0),
    "cells": ("cells", 1),
}


def norm_of(code, row):
    return sum(code.norms[place] for place in row)


def are_saves(plan, value):
    return is_plain(value) and type(value) is tuple and set(value) <= set(all_saves(plan)) and (
        list(value) == sorted(set(value)))


def is_question_as_written(thing, value):
    if type(value) is not tuple or not value or type(value[0]) is not str or not is_plain(value):
        return False
    word, *members = value
    if isinstance(thing, Plan):
        if word == "clash" and len(members) == 3 and are_saves(thing, members[0]):
            return members[1] in all_slots(thing) and members[2] in all_slots(thing) and members[1] <= members[2]
        return (word == "save" and tuple(members) in all_saves(thing)) or value == ("cells",)
    if word == "same":
        return len(members) == 2 and all(is_place_row(thing, row) for row in members)
    if word == "form":
        return len(members) == 1 and is_place_row(thing, members[0])
    if word == "joint":
        return len(members) == 2 and is_place_row(thing, members[0]) and (
            is_plain_number(members[1], norm_of(thing, members[0]) + 1))
    if word in ("events", "depth"):
        return len(members) == 1 and is_plain_number(members[0], len(thing))
    return word == "reached" and len(members) == 2 and are_numbers(members[0], len(thing)) and (
        1 <= len(members[0]) <= 4) and is_plain_number(members[1], len(thing))


def asked_as_written(value):
    word, told = CLAIM_WORDS[value[0]]
    return (word, *value[1:len(value) - told])


def is_claim_as_written(thing, value):
    if type(value) is not tuple or not value or type(value[0]) is not str or value[0] not in CLAIM_WORDS:
        return False
    told = CLAIM_WORDS[value[0]][1]
    if len(value) <= told or not is_question_as_written(thing, asked_as_written(value)):
        return False
    if value[0] == "form":
        return is_form(value[-2:])
    return told == 0 or is_plain_number(value[-1])


def joint_as_written(code, row, level, paper):
    if not key_as_written(code, row, code, row, paper):
        return False
    rules = paper[0]
    worth = worth_as_written(code, table_as_written(code, rules, paper[1]), row)
    norms = FormRules(rules).norms
    ends = [worth[at:] for at in range(len(worth) + 1)]
    return any(all(norms[number] is not None for number in end) and sum(norms[number] for number in end) == level
               for end in ends)


def no_joint_as_written(code, row, level, paper):
    if type(paper) is not tuple or len(paper) != 3 or not all(are_numbers(moves) for moves in paper):
        return False
    one, other, more = paper
    if not first_reach(code, row, one, level) or not first_reach(code, row, other, level):
        return False
    left, right = (run_of(CodeRules(code), row, moves + more)[len(moves):] for moves in (one, other))
    return left != right


def first_reach(code, row, moves, level):
    """Whether the moves first reach the level of the row."""
    rules = CodeRules(code)
    row = rules.front(row)
    for move in moves:
        if not row or level_of(rules, row) <= level:
            return False
        row = after(rules, row, move % rules.event(row[0])[1])
    return level_of(rules, row) == level


def path_as_written(code, entries, place, paper):
    if not are_numbers(paper, len(code)) or not paper or paper[0] not in entries or paper[-1] != place:
        return False
    return all(behind in followers_at(code, ahead) for ahead, behind in zip(paper, paper[1:]))


def idle_as_written(code, entries, place, paper):
    if not are_numbers(paper, len(code)) or list(paper) != sorted(set(paper)) or not set(entries) <= set(paper):
        return False
    return place not in paper and all(set(followers_at(code, at)) <= set(paper) for at in paper)


def code_paper_as_written(code, claim, paper):
    word, *members = claim
    if word == "same":
        return key_as_written(code, members[0], code, members[1], paper)
    if word == "unlike":
        rules = CodeRules(code)
        return are_numbers(paper) and run_of(rules, members[0], paper) != run_of(rules, members[1], paper)
    if word == "form":
        return form_paper_as_written(code, members[0], (members[1], members[2]), paper)
    if word == "joint":
        return joint_as_written(code, *members, paper)
    if word == "no joint":
        return no_joint_as_written(code, *members, paper)
    if word == "events":
        return type(paper) is tuple and len(paper) == 3 and is_form(paper[:2]) and len(paper[1]) == members[1] and (
            form_paper_as_written(code, (members[0],), paper[:2], paper[2]))
    if word in ("depth", "endless"):
        return depth_as_written(code, members[0], members[1] if word == "depth" else None, paper)
    return (path_as_written if word == "reached" else idle_as_written)(code, *members, paper)


def free_as_written(plan, save, paper):
    if not are_facts_as_written(plan, paper) or not covers_as_written(plan, paper):
        return False
    f, p, s = save
    return (f, p) not in paper[0] or (line_of(plan, (f, p))[1], f, s) not in paper[2]


def plan_paper_as_written(plan, claim, paper):
    word, *members = claim
    if word == "clash":
        return are_numbers(paper) and shows_clash_as_written(plan, *members, paper)
    if word == "apart":
        return keep_apart_as_written(plan, *members, paper)
    if word == "save":
        return are_numbers(paper) and shows_forced_as_written(plan, tuple(members), paper)
    if word == "free":
        return free_as_written(plan, tuple(members), paper)
    return cells_paper_as_written(plan, members[0], paper)


def holds_as_written(thing, claim, paper):
    if not is_claim_as_written(thing, claim):
        return False
    return (plan_paper_as_written if isinstance(thing, Plan) else code_paper_as_written)(thing, claim, paper)


def other_claims(thing, claim):
    """Other claims that may answer the same question."""
    word, *members = claim
    opposite = {"same": "unlike", "joint": "no joint", "reached": "idle", "clash": "apart", "save": "free"}
    opposite.update({other: one for one, other in opposite.items()})
    if word in opposite:
        return [(opposite[word], *members)]
    if word == "form":
        return [("form", members[0], (), ())] if members[1] else [("form", members[0], (0,), (("a", ((),)),))]
    if word == "endless":
        return [("depth", members[0], many) for many in (0, 1, 7)]
    wrong = [(*claim[:-1], claim[-1] + step) for step in (-1, 1, 5) if claim[-1] + step >= 0]
    return wrong + ([("endless", members[0])] if word == "depth" else [])


def code_questions(source, code):
    """Random questions for a code, at least one of each kind."""
    def place():
        return source.randrange(len(code))

    one, other, row = random_row(source, code, 6), random_row(source, code, 6), random_row(source, code, 6)
    alone = (place(),)
    like = [at for at in range(len(code)) if prime_form(code, (at,)) == prime_form(code, alone)]
    return [
        ("same", one, other), ("same", (*row, *alone)[-6:], (*row, source.choice(like))[-6:]), ("form", one),
        ("joint", row, source.randrange(norm_of(code, row) + 1)),
        ("joint", alone, source.randrange(norm_of(code, alone) + 1)), ("events", place()), ("depth", place()),
        ("reached", tuple(place() for _ in range(source.randrange(1, 5))), place())]


def plan_questions(source, plan):
    slots, saves = all_slots(plan), all_saves(plan)
    found = [("cells",)]
    for _ in range(3 if slots else 0):
        x, y = sorted([source.choice(slots), source.choice(slots)])
        found.append(("clash", random_saves(source, plan), x, y))
    found += [("save", *source.choice(saves)) for _ in range(2 if saves else 0)]
    return found
