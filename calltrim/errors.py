"""The errors of the package. Each one keeps the arguments with which it is made."""


class TrimError(ValueError):
    """Stands above all other errors of the package and is never raised itself."""


class InvalidNumber(TrimError):
    def __init__(self, value):
        self.value = value


class InvalidWord(TrimError):
    def __init__(self, value):
        self.value = value


class InvalidLine(TrimError):
    def __init__(self, line):
        self.line = line


class InvalidCode(TrimError):
    def __init__(self, value):
        self.value = value


class Endless(TrimError):
    def __init__(self, place):
        self.place = place


class TooLong(TrimError):
    def __init__(self, place):
        self.place = place


class TooLarge(TrimError):
    def __init__(self, many):
        self.many = many


class InvalidRow(TrimError):
    def __init__(self, value):
        self.value = value


class InvalidMoves(TrimError):
    def __init__(self, value):
        self.value = value


class InvalidText(TrimError):
    def __init__(self, text, at):
        self.text = text
        self.at = at


class InvalidForm(TrimError):
    def __init__(self, value):
        self.value = value


class InvalidEntries(TrimError):
    def __init__(self, value):
        self.value = value


class InvalidCut(TrimError):
    def __init__(self, value):
        self.value = value


class InvalidTables(TrimError):
    def __init__(self, value):
        self.value = value


class InvalidWords(TrimError):
    def __init__(self, value):
        self.value = value


class InvalidImage(TrimError):
    def __init__(self, at):
        self.at = at


class InvalidPlan(TrimError):
    def __init__(self, value):
        self.value = value


class Unset(TrimError):
    def __init__(self, place, slot):
        self.place = place
        self.slot = slot


class InvalidPlacement(TrimError):
    def __init__(self, value):
        self.value = value


class InvalidSaves(TrimError):
    def __init__(self, value):
        self.value = value


class InvalidSlot(TrimError):
    def __init__(self, value):
        self.value = value


class InvalidQuestion(TrimError):
    def __init__(self, value):
        self.value = value


class InvalidClaim(TrimError):
    def __init__(self, value):
        self.value = value


class Undefined(TrimError):
    def __init__(self, what):
        self.what = what


class NothingToUndo(TrimError):
    def __init__(self, word):
        self.word = word
