"""Desks: codes that are edited while questions about them are watched."""

from calltrim.claims import answer_of, check_question, is_question
from calltrim.codes import Code
from calltrim.errors import NothingToUndo, Undefined
from calltrim.papers import claim_holds, paper_of
from calltrim.shortening import shortened


def has_bool(value):
    return any([has_bool(member) for member in value]) if isinstance(value, tuple) else isinstance(value, bool)


def place_in(watched, value):
    """The place of value among the watched questions; None if it is none of them."""
    # for Python a bool is equal to a number, but no question has one
    if value not in watched or has_bool(value):
        return None
    return watched.index(value)


def looked_at(code, question, kept):
    """What report tells of the question, and its claim and paper from here on; kept is None for a new one."""
    if not is_question(code, question):
        return ("new" if kept is None else "none"), None, None
    if kept is not None and claim_holds(code, kept[0], kept[1]):
        return "kept", kept[0], kept[1]
    claim = answer_of(code, question)
    word = "changed"
    if kept is None:
        word = "new"
    elif kept[0] == claim:
        word = "renewed"
    return word, claim, paper_of(code, question)


class Desk:
    """A code that is edited, its watched questions, and what is kept of each: a claim and a paper, or None."""

    def __init__(self, code):
        self.code = code
        self.watched = ()
        self.many = 0
        # code and watched questions ahead of each deed that can be undone, behind each one that can be redone
        self._done = []
        self._undone = []
        # of each watched question what report tells, the claim and the paper
        self._looks = ()

    def put(self, place, line):
        self._do(self.code.put(place, line), self.watched)

    def take(self, place):
        self._do(self.code.take(place), self.watched)

    def turn(self, place, line):
        self._do(self.code.turn(place, line), self.watched)

    def shorten(self, entries=(0,)):
        _, lines, moved = shortened(self.code, entries)[-1]
        self._do(Code(lines), self.watched)
        return moved

    def watch(self, question):
        check_question(self.code, question)
        known = place_in(self.watched, question) is not None
        self._do(self.code, self.watched if known else (*self.watched, question))

    def leave(self, question):
        at = self._place_of(question)
        self._do(self.code, self.watched[:at] + self.watched[at + 1:])

    def undo(self):
        if not self._done:
            raise NothingToUndo("undo")
        code, watched = self._done.pop()
        self._undone.append((self.code, self.watched))
        self._become(code, watched)

    def redo(self):
        if not self._undone:
            raise NothingToUndo("redo")
        code, watched = self._undone.pop()
        self._done.append((self.code, self.watched))
        self._become(code, watched)

    def claim(self, question):
        return self._looks[self._place_of(question)][1]

    def paper(self, question):
        return self._looks[self._place_of(question)][2]

    def report(self):
        return tuple([word for word, _, _ in self._looks])

    def _place_of(self, question):
        at = place_in(self.watched, question)
        if at is None:
            raise Undefined("watched")
        return at

    def _do(self, code, watched):
        """A deed that can be undone."""
        self._done.append((self.code, self.watched))
        self._undone = []
        self._become(code, watched)

    def _become(self, code, watched):
        kept = {self.watched[at]: self._looks[at][1:] for at in range(len(self.watched))}
        self._looks = tuple([looked_at(code, question, kept.get(question)) for question in watched])
        self.code = code
        self.watched = watched
        self.many = len(self._done)

    def kept_claims(self):
        """The claim and the paper of each watched question."""
        return [look[1:] for look in self._looks]

    def undone_deeds(self):
        """How many deeds can be redone."""
        return len(self._undone)


def same_state(one, other):
    if one.code != other.code or one.watched != other.watched or one.kept_claims() != other.kept_claims():
        return False
    return one.many == other.many and one.undone_deeds() == other.undone_deeds()
