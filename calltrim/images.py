"""Images: codes as octets with a list of words, and the machine that runs them."""

from calltrim.areas import area
from calltrim.codes import Code
from calltrim.errors import InvalidImage, InvalidWords
from calltrim.lines import is_event_line
from calltrim.octets import addresses_of, first_wrong_octet, read_lines, written
from calltrim.runs import check_moves, check_place, run
from calltrim.walks import Walk
from calltrim.words import is_word

MOST_WORDS = 31


def are_words(value):
    if not isinstance(value, tuple) or len(value) > MOST_WORDS or not all([is_word(word) for word in value]):
        return False
    return len(set(value)) == len(value)


class Image:
    """Octets that can be read with a list of words."""

    def __init__(self, words, octets):
        if not are_words(words):
            raise InvalidWords(words)
        wrong = first_wrong_octet(octets, len(words))
        if wrong is not None:
            raise InvalidImage(wrong)
        self.words = tuple(words)
        self.octets = tuple(octets)
        self.code = Code(read_lines(self.words, self.octets))
        self.addresses = tuple(addresses_of(self.code.lines))

    def __eq__(self, other):
        return isinstance(other, Image) and self.words == other.words and self.octets == other.octets

    def __str__(self):
        return " ".join([f"{octet:02x}" for octet in self.octets])


def words_in_order(code):
    found = []
    for line in code.lines:
        if is_event_line(line) and line[1] not in found:
            found.append(line[1])
    return tuple(found)


def assembled(code):
    words = words_in_order(code)
    tables = tuple([line[2] for line in code.lines if line[0] == "ask"])
    return Image(words, written(code.lines, words, area(tables) if tables else ()))


def machine_run(image, place, moves):
    check_place(image.code, place)
    check_moves(moves)
    return run(image.code, (place,), moves)


def machine_steps(image, place, moves):
    check_place(image.code, place)
    check_moves(moves)
    walk = Walk(image.code, place)
    walk.run_by(moves)
    return tuple([image.addresses[met] for met in walk.places])
