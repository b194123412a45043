"""Papers of claims about codes and plans."""

from calltrim.cells import cells_hold, cells_paper
from calltrim.claims import answer_of, is_claim
from calltrim.clashes import clash_moves, keep_apart, shows_clash, shows_forced
from calltrim.flows import cover, least_facts, line_at
from calltrim.formpapers import form_holds, form_paper, shows_no_joint
from calltrim.forms import prime_form
from calltrim.keys import key_holds, key_of
from calltrim.kinds import is_ascending, is_tuple_below
from calltrim.levels import level_paper
from calltrim.lines import followers_of
from calltrim.norms import norms_met
from calltrim.plans import Plan
from calltrim.primes import Primes
from calltrim.sameness import parting, parting_holds
from calltrim.showings import cause_moves
from calltrim.stacks import depth_holds, depth_paper
from calltrim.systems import row_of, system_of
from calltrim.tables import worth_by
from calltrim.tidying import reached
from calltrim.walks import way_by


def paper_of(thing, question):
    claim = answer_of(thing, question)
    return paper_of_plan(thing, claim) if isinstance(thing, Plan) else paper_of_code(thing, claim)


def paper_of_code(code, claim):
    word, *members = claim
    if word == "same":
        return key_of(code, members[0], code, members[1])
    if word == "unlike":
        return parting(code, members[0], code, members[1])
    if word == "form":
        return form_paper(code, members[0])
    if word == "joint":
        return key_of(code, members[0], code, members[0])
    if word == "no joint":
        return no_joint_paper(code, members[0], members[1])
    if word == "events":
        start, rules = prime_form(code, (members[0],))
        return start, rules, form_paper(code, (members[0],))
    if word == "reached":
        return path_to(code, members[0], members[1])
    return reached(code, members[0]) if word == "idle" else depth_paper(code, members[0])


def no_joint_paper(code, row, level):
    system, spread = system_of(code)
    numbers = row_of(spread, row)
    return level_paper(Primes(system, numbers), numbers, level, {})


def path_to(code, entries, place):
    """Places from an entry to place, each following the one ahead of it."""
    steps = []
    for at in range(len(code)):
        steps.append([(follower, 0, (follower,)) for follower in followers_of(code.lines[at], at)])
    for entry in entries:
        way = way_by(steps, entry, [place])
        if way is not None:
            return (entry,) + way
    return None


def paper_of_plan(plan, claim):
    word, *members = claim
    if word == "clash":
        return clash_moves(plan, members[0], members[1], members[2])
    if word == "save":
        f, p, s = members
        return cause_moves(plan, ((f, p), (f, s), (f, s)))
    return cells_paper(plan) if word == "cells" else least_facts(plan)


def claim_holds(thing, claim, paper):
    if not is_claim(thing, claim):
        return False
    return holds_of_plan(thing, claim, paper) if isinstance(thing, Plan) else holds_of_code(thing, claim, paper)


def holds_of_code(code, claim, paper):
    word, *members = claim
    if word == "same":
        return key_holds(code, members[0], code, members[1], paper)
    if word == "unlike":
        return parting_holds(code, members[0], code, members[1], paper)
    if word == "form":
        return form_holds(code, members[0], (members[1], members[2]), paper)
    if word == "joint":
        return shows_joint(code, members[0], members[1], paper)
    if word == "no joint":
        system, spread = system_of(code)
        return shows_no_joint(system, row_of(spread, members[0]), members[1], paper)
    if word == "events":
        return shows_events(code, members[0], members[1], paper)
    if word == "reached":
        return is_path(code, members[0], members[1], paper)
    if word == "idle":
        return shows_idle(code, members[0], members[1], paper)
    return depth_holds(code, members[0], members[1] if word == "depth" else None, paper)


def shows_joint(code, row, level, value):
    if not key_holds(code, row, code, row, value):
        return False
    rules, table, _ = value
    worth = worth_by(code, rules, table, row)
    # a row that returns has a worth all of whose numbers have norms
    norms = norms_met(rules, worth)
    return level in [sum([norms[number] for number in worth[at:]]) for at in range(len(worth) + 1)]


def shows_events(code, place, many, value):
    if not isinstance(value, tuple) or len(value) != 3:
        return False
    start, rules, paper = value
    return form_holds(code, (place,), (start, rules), paper) and len(rules) == many


def is_path(code, entries, place, value):
    if not is_tuple_below(value, len(code)) or not value or value[0] not in entries or value[-1] != place:
        return False
    followers = [followers_of(code.lines[at], at) for at in range(len(code))]
    return all([value[at + 1] in followers[value[at]] for at in range(len(value) - 1)])


def shows_idle(code, entries, place, value):
    """Whether value has all places that entries come to, but not the place."""
    if not is_tuple_below(value, len(code)) or not is_ascending(value) or place in value:
        return False
    if any([entry not in value for entry in entries]):
        return False
    return all([follower in value for at in value for follower in followers_of(code.lines[at], at)])


def holds_of_plan(plan, claim, paper):
    word, *members = claim
    if word == "clash":
        return shows_clash(plan, members[0], members[1], members[2], paper)
    if word == "apart":
        return keep_apart(plan, members[0], members[1], members[2], paper)
    if word == "save":
        return shows_forced(plan, tuple(members), paper)
    return shows_free(plan, tuple(members), paper) if word == "free" else cells_hold(plan, members[0], paper)


def shows_free(plan, save, value):
    """Whether value is facts by which what is called does not write the slot, or the call line is not reached."""
    if not cover(plan, value):
        return False
    f, p, s = save
    places, _, written = value
    return (f, p) not in places or (line_at(plan, (f, p))[1], f, s) not in written
