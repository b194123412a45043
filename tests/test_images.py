import unittest

from calltrim.areas import area
from calltrim.codes import Code
from calltrim.errors import (
    Endless, InvalidImage, InvalidMoves, InvalidNumber, InvalidWords, TooLong, TrimError,
)
from calltrim.images import Image, assembled, machine_run, machine_steps
from calltrim.runs import run
from calltrim.words import is_word
from bounds import codes_near_the_bounds, random_long_code
from mutants import ANY_VALUES
from refactored import random_pair
from support import BACK, SMALL, caught, is_plain, random_code, random_moves, seeded
from test_stacks import states_of

DO = ("do", "a")
LOOP = Code([("ask", "t.1", (3,)), ("do", "a>2"), ("go", 0), BACK])
LOOP_OCTETS = (4, 5, 0, 1, 0, 1, 1, 3, 1, 2, 9)
SPANS = {1: 2, 2: 1, 3: 2, 4: 2, 5: 4}


def wrong_as_written(octets, many):
    """The number of the first wrong octet in the order of point 32; None if there is none."""
    if type(octets) not in (list, tuple) or not all(type(octet) is int and 0 <= octet < 256 for octet in octets):
        return 0
    rest = list(enumerate(octets))

    def next_octet(fits):
        if not rest:
            raise LookupError(len(octets))
        at, octet = rest.pop(0)
        if not fits(octet):
            raise LookupError(at)
        return octet

    try:
        count = next_octet(lambda octet: 1 <= octet <= 32)
        begins, addresses, tables = [], [], []
        for line in range(count):
            begins.append(len(octets) - len(rest))
            last = line == count - 1
            operation = next_octet(lambda octet: octet in ((2, 3) if last else (1, 2, 3, 4, 5)))
            if operation in (1, 5):
                next_octet(lambda octet: octet < many)
            if operation in (3, 4):
                addresses.append((len(octets) - len(rest), next_octet(lambda octet: True), None))
            if operation == 5:
                targets = next_octet(lambda octet: 1 <= octet <= 4)
                addresses.append((len(octets) - len(rest), next_octet(lambda octet: True), targets))
    except LookupError as error:
        return error.args[0]
    for at, octet, targets in addresses:
        if octet not in begins if targets is None else octet + targets > len(rest):
            return at
    return next((at for at, octet in rest if octet not in begins), None)


def code_as_written(words, octets):
    """The lines of octets that can be read."""
    begins, at = [], 1
    for _ in range(octets[0]):
        begins.append(at)
        at += SPANS[octets[at]]
    rows = octets[at:]
    lines = []
    for at in begins:
        kind, rest = octets[at], octets[at + 1:at + 4]
        if kind == 1:
            lines.append(("do", words[rest[0]]))
        elif kind == 2:
            lines.append(BACK)
        elif kind in (3, 4):
            lines.append(("go" if kind == 3 else "call", begins.index(rest[0])))
        else:
            targets = rows[rest[2]:rest[2] + rest[1]]
            lines.append(("ask", words[rest[0]], tuple(begins.index(target) for target in targets)))
    return tuple(lines), tuple(begins)


def octets_as_written(lines):
    """The words and octets of lines, also of lines that are no code."""
    words = []
    for line in lines:
        if line[0] in ("do", "ask") and line[1] not in words:
            words.append(line[1])
    begins, at = [], 1
    for line in lines:
        begins.append(at)
        at += {"do": 2, "back": 1, "go": 2, "call": 2, "ask": 4}[line[0]]
    tables = tuple(line[2] for line in lines if line[0] == "ask")
    row = area(tables) if tables else ()
    octets = [len(lines)]
    for line in lines:
        if line[0] == "do":
            octets += [1, words.index(line[1])]
        elif line[0] == "ask":
            stands = [k for k in range(len(row)) if row[k:k + len(line[2])] == line[2]]
            octets += [5, words.index(line[1]), len(line[2]), stands[0]]
        else:
            octets += {"back": [2], "go": [3], "call": [4]}[line[0]] + [begins[target] for target in line[1:]]
    return tuple(words), tuple(octets + [begins[place] for place in row])


def any_code(source, turn):
    words = source.choice([("a", "b.1>2", "t.3"), tuple(f"a.{cell}>{cell}" for cell in range(16))])
    return [random_code(source, source.randrange(1, 33), words), random_pair(source)[0], random_long_code(source)][turn % 3]


class AssembledTest(unittest.TestCase):
    def assert_image(self, code):
        image = assembled(code)
        self.assertEqual((image.words, image.octets), octets_as_written(code.lines))
        self.assertEqual(image.code, code)
        self.assertEqual(image.addresses, code_as_written(image.words, image.octets)[1])
        self.assertTrue(is_plain(image.words) and is_plain(image.octets) and is_plain(image.addresses))
        again = Image(image.words, list(image.octets))
        self.assertEqual(again, image)
        self.assertEqual((again.code, again.addresses, again.octets), (code, image.addresses, image.octets))
        self.assertTrue(is_plain(again.octets))
        self.assertEqual(str(image), " ".join(format(octet, "02x") for octet in image.octets))
        return image

    def test_small_ones(self):
        image = self.assert_image(SMALL)
        self.assertEqual((image.words, image.octets, image.addresses, str(image)), ((), (1, 2), (1,), "01 02"))
        image = assembled(code=LOOP)
        self.assertEqual((image.words, image.octets, image.addresses), (("t.1", "a>2"), LOOP_OCTETS, (1, 5, 7, 9)))
        self.assertEqual(str(image), "04 05 00 01 00 01 01 03 01 02 09")
        self.assertEqual(Image(words=("t.1", "a>2"), octets=LOOP_OCTETS), image)

    def test_all_kinds_of_lines(self):
        code = Code([("call", 3), ("ask", "t", (5, 0, 5)), ("go", 4), ("do", "a"), BACK,
                     ("ask", "t", (0, 5)), ("do", "a"), BACK])
        image = self.assert_image(code)
        self.assertEqual(image.octets, (8, 4, 9, 5, 0, 3, 0, 3, 11, 1, 1, 2, 5, 0, 2, 1, 1, 1, 2, 12, 1, 12))

    def test_random_codes(self):
        source = seeded(130)
        for turn in range(300):
            self.assert_image(any_code(source, turn))

    def test_near_the_bounds(self):
        for code in codes_near_the_bounds():
            self.assert_image(code)
        words = tuple(f"w.{cell}" for cell in range(16)) + tuple(f"w>{cell}" for cell in range(15))
        self.assertEqual(len(self.assert_image(Code([("do", word) for word in words] + [BACK])).words), 31)
        large = Code([("ask", "t", (31, at, (at * 7) % 32, (at * 5) % 32)) for at in range(31)] + [BACK])
        self.assertEqual(len(self.assert_image(large).octets), 1 + 31 * 4 + 1 + 124)

    def test_attributes_and_equality(self):
        image, twin = assembled(LOOP), Image(("t.1", "a>2"), list(LOOP_OCTETS))
        self.assertIs(image == twin, True)
        self.assertIs(image == Image(("t.1", "a>2", "b"), LOOP_OCTETS), False)
        self.assertIs(image == Image(("t", "a>2"), LOOP_OCTETS), False)
        self.assertIs(image == Image(("t.1", "a>2"), LOOP_OCTETS + (1,)), False)
        for value in [*ANY_VALUES, LOOP, image.octets, (image.words, image.octets), str(image)]:
            self.assertIs(image == value, False)
            self.assertIs(image != value, True)
        self.assertRaises(TypeError, iter, image)
        self.assertRaises(TypeError, list, image)


class ReadingTest(unittest.TestCase):
    def assert_read(self, words, octets):
        """As written, whether they can be read or not; tells what came of it."""
        wrong = wrong_as_written(octets, len(words))
        if wrong is not None:
            error = caught(self, InvalidImage, Image, words, octets)
            self.assertEqual(error.at, wrong, octets)
            return "wrong"
        lines, addresses = code_as_written(words, tuple(octets))
        try:
            code = Code(lines)
        except TrimError as error:
            found = caught(self, type(error), Image, words, octets)
            self.assertEqual(found.place, error.place)
            return type(error).__name__
        image = Image(words, octets)
        self.assertEqual((image.code, image.addresses), (code, addresses))
        self.assertEqual((image.words, image.octets), (words, tuple(octets)))
        return "read"

    def test_one_octet_changed_put_in_or_taken_out(self):
        source = seeded(131)
        seen = {}
        for turn in range(150):
            image = assembled(any_code(source, turn))
            for _ in range(25):
                octets, at = list(image.octets), source.randrange(len(image.octets))
                new = source.choice([0, 1, 2, 3, 4, 5, 6, source.randrange(256), source.choice(image.addresses)])
                turned = source.choice(["change", "put", "take", "cut", "end"])
                if turned == "change":
                    octets[at] = new
                elif turned == "put":
                    octets.insert(at, new)
                elif turned == "take":
                    del octets[at]
                elif turned == "cut":
                    del octets[at:]
                else:
                    octets.append(new)
                told = self.assert_read(image.words, source.choice([tuple(octets), octets]))
                seen[told] = seen.get(told, 0) + 1
        self.assertGreater(min(seen[told] for told in ("wrong", "read", "Endless")), 10)

    def test_each_octet_of_a_code_changed(self):
        code = Code([("call", 3), ("ask", "t", (4, 0)), ("go", 4), DO, BACK])
        image = assembled(code)
        for at in range(len(image.octets)):
            for new in (0, 1, 2, 3, 4, 5, 6, 7, 10, 31, 32, 33, 254, 255, *image.addresses):
                self.assert_read(image.words, image.octets[:at] + (new,) + image.octets[at + 1:])
            self.assert_read(image.words, image.octets[:at])
            self.assert_read(image.words, image.octets[:at] + image.octets[at + 1:])
            for new in (0, 1, 2, 255):
                self.assert_read(image.words, image.octets[:at] + (new,) + image.octets[at:])

    def test_first_wrong_octets_in_order(self):
        words = ("t.1", "a>2")
        for octets, at in [
                ((), 0), ((0,), 0), ((33, 2), 0), ((1,), 1), ((2, 2), 2), ((1, 1, 0), 1), ((1, 4, 1), 1), ((1, 5), 1),
                ((1, 0), 1), ((1, 6), 1), ((2, 6, 2), 1), ((2, 1, 2, 2), 2), ((2, 1), 2), ((2, 1, 1), 3),
                ((2, 5, 2, 9, 9, 2), 2), ((2, 5, 1, 0, 0, 2), 3), ((2, 5, 1, 5, 0, 2), 3), ((2, 5, 1, 4), 4),
                ((2, 5, 1, 1, 0, 2), 4), ((2, 5, 1, 2, 0, 2, 5), 4), ((2, 5, 1, 1, 255, 2, 5), 4), ((2, 4, 2, 2), 2),
                ((2, 4, 0, 3, 0), 2), ((2, 4, 3, 3, 0), 4), ((2, 4, 3, 3, 4), 4), ((1, 2, 0), 2), ((1, 2, 1, 2), 3),
                ((3, 4, 2, 5, 0, 1, 9, 2, 0), 2), ((3, 4, 3, 5, 0, 1, 9, 2, 0), 6), ((3, 4, 3, 5, 0, 1, 0, 2, 0), 8),
                ((3, 4, 9, 3, 9, 3, 9), 2), ((1, 3, 0), 2), ((1, 3, 2), 2)]:
            self.assertEqual(wrong_as_written(octets, 2), at, octets)
            self.assertEqual(caught(self, InvalidImage, Image, words, octets).at, at)
            self.assertEqual(caught(self, InvalidImage, Image, words=words, octets=list(octets)).at, at)

    def test_what_are_no_octets(self):
        for value in [*ANY_VALUES, (1, 256), (1, -1), (1, True), (True, 2), (1, 2, None), (1, "2"), [1, 2, 300],
                      (1, 2, (1,)), ((1, 2),), b"\x01\x02", "\x01\x02", (256,), [1, [2]]]:
            error = caught(self, InvalidImage, Image, (), value)
            self.assertEqual(error.at, wrong_as_written(value, 0))
            self.assertEqual(error.at, 0)

    def test_words(self):
        octets = (3, 1, 0, 1, 1, 2)
        many = tuple(f"w.{cell}" for cell in range(16)) + tuple(f"w>{cell}" for cell in range(16))
        for words in [("a", "b"), ("a", "b", "c"), ("b.1>2", "a"), many[:31], ("zzzz.15.15.15>15", "a")]:
            image = Image(words, octets)
            self.assertEqual(image.words, words)
            self.assertEqual(image.code.lines, (("do", words[0]), ("do", words[1]), BACK))
        self.assertEqual(Image((), [1, 2]).words, ())
        self.assertEqual(caught(self, InvalidImage, Image, ("a",), octets).at, 4)
        self.assertEqual(caught(self, InvalidImage, Image, (), octets).at, 2)
        self.assertIs(caught(self, InvalidWords, Image, many, octets).value, many)
        for words in [["a", "b"], ("a", "a"), ("a", "b", "a"), ("A", "b"), ("a", ""), ("a", "b.16"), ("a", 1), ("a", None),
                      ("a", ("b",)), ("a", ["b"]), None, 0, True, "ab", ("abcde", "b"), ("a", True), SMALL, ("a", SMALL)]:
            self.assertIs(caught(self, InvalidWords, Image, words, octets).value, words)
            self.assertIs(caught(self, InvalidWords, Image, words, None).value, words)
            self.assertIs(caught(self, InvalidWords, Image, words, (0,)).value, words)
        for value in ANY_VALUES:
            if not (isinstance(value, tuple) and all(is_word(word) for word in value)):
                self.assertIs(caught(self, InvalidWords, Image, value, octets).value, value)

    def test_endless_and_too_long(self):
        self.assertEqual(caught(self, Endless, Image, (), (2, 2, 3, 2)).place, 1)
        self.assertEqual(caught(self, Endless, Image, ("a",), (3, 2, 1, 0, 3, 2)).place, 1)
        # calls that double 6 times, and calls of nothing that make a length of 202
        stairs = [(("call", "go")[at % 2], at - at % 2 + 2) for at in range(12)] + [DO, BACK]
        silent = [("call", 12)] * 10 + [("go", 11), BACK] + [("call", 21)] * 8 + [BACK, ("go", 20)]
        for lines in (stairs, silent):
            words, octets = octets_as_written(lines)
            self.assertEqual(caught(self, TooLong, Code, lines).place, 0)
            self.assertEqual(caught(self, TooLong, Image, words, octets).place, 0)
            self.assertEqual(caught(self, InvalidImage, Image, words, octets[:-1]).at, len(octets) - 1)
            caught(self, InvalidWords, Image, words + ("",), octets)
            caught(self, InvalidWords, Image, words + ("",), octets[:-1])

    def test_areas_other_than_the_told_one(self):
        words, octets = ("t",), [3, 5, 0, 2, 0, 5, 0, 1, 1, 2, 9, 1]
        lines = (("ask", "t", (2, 0)), ("ask", "t", (0,)), BACK)
        self.assertEqual(Image(words, octets).code.lines, lines)
        self.assertEqual(assembled(Code(lines)).octets, tuple(octets))
        for area_octets, one, other in [((9, 1, 1), 0, 2), ((1, 9, 1), 1, 0), ((9, 9, 9, 1, 5), 2, 3)]:
            made = octets[:10] + list(area_octets)
            made[4], made[8] = one, other
            image = Image(words, made)
            self.assertEqual(image.code.lines, lines)
            self.assertNotEqual(image, assembled(image.code))
        self.assertEqual(len(Image(words, octets + [1] * 588).octets), 600)


class MachineTest(unittest.TestCase):
    def test_runs_as_the_code_does(self):
        source = seeded(132)
        for turn in range(200):
            code = any_code(source, turn)
            image = assembled(code)
            for most in (0, 5, 40):
                place, moves = source.randrange(len(code)), random_moves(source, most)
                self.assertEqual(machine_run(image, place, moves), run(code, (place,), moves))
                self.assertTrue(is_plain(machine_run(image, place, moves)))

    def test_images_made_by_others(self):
        source = seeded(133)
        made = 0
        for turn in range(300):
            image = assembled(any_code(source, turn))
            octets = list(image.octets)
            for _ in range(source.choice([1, 2])):
                octets[source.randrange(len(octets))] = source.choice([1, 2, 3, 4, source.choice(image.addresses)])
            words = image.words + (("zz",) if len(image.words) < 31 else ())
            try:
                other = Image(words, octets)
            except (InvalidImage, Endless, TooLong):
                continue
            made += 1
            code = Code(code_as_written(words, tuple(octets))[0])
            place, moves = source.randrange(len(code)), random_moves(source, 20)
            self.assertEqual(machine_run(other, place, moves), run(code, (place,), moves))
            self.assert_steps(other, code, place, moves)
        self.assertGreater(made, 30)

    def assert_steps(self, image, code, place, moves):
        states, _ = states_of(code, place, moves)
        steps = machine_steps(image, place, moves)
        self.assertEqual(steps, tuple(image.addresses[at] for at, _, _ in states))
        self.assertTrue(is_plain(steps))

    def test_steps(self):
        image = assembled(LOOP)
        self.assertEqual(machine_steps(image, 0, ()), (1,))
        self.assertEqual(machine_steps(image, 0, (0, 0)), (1, 5, 7, 1))
        self.assertEqual(machine_steps(image, 0, (0, 7, 3)), (1, 5, 7, 1, 9))
        self.assertEqual(machine_steps(image=image, place=2, moves=(1, 1, 1)), (7, 1, 9))
        self.assertEqual(machine_steps(image, 3, ()), (9,))
        code = Code([("call", 3), ("go", 2), BACK, ("go", 4), DO, BACK])
        image = assembled(code)
        self.assertEqual(image.addresses, (1, 3, 5, 6, 8, 10))
        self.assertEqual(machine_steps(image, 0, ()), (1, 6, 8))
        self.assertEqual(machine_steps(image, 0, (5,)), (1, 6, 8, 10, 3, 5))
        self.assertEqual(machine_run(image=image, place=0, moves=(5,)), (("a", 1, 0), ()))

    def test_steps_as_written(self):
        source = seeded(134)
        for turn in range(200):
            code = any_code(source, turn)
            image = assembled(code)
            self.assert_steps(image, code, source.randrange(len(code)), random_moves(source, 25))

    def test_up_to_400_moves(self):
        source = seeded(135)
        for code in [LOOP, *codes_near_the_bounds()]:
            image = assembled(code)
            for many in (0, 1, 399, 400):
                moves = tuple(source.randrange(10) for _ in range(many))
                self.assertEqual(machine_run(image, 0, moves), run(code, (0,), moves))
                self.assert_steps(image, code, 0, moves)
        self.assertEqual(len(machine_steps(assembled(LOOP), 0, (0,) * 400)), 601)

    def test_errors_in_their_order(self):
        image = assembled(LOOP)
        for call in (machine_run, machine_steps):
            for value in [-1, 4, 9, True, False, None, "0", (0,), [0], SMALL]:
                self.assertIs(caught(self, InvalidNumber, call, image, value, None).value, value)
            for value in ([], [0], (True,), (-1,), None, 0, ("0",), ((),), (0, [1]), SMALL):
                self.assertIs(caught(self, InvalidMoves, call, image, 0, value).value, value)
            for value in ANY_VALUES:
                if value not in (0, 1):
                    self.assertIs(caught(self, InvalidNumber, call, image, value, ()).value, value)


if __name__ == "__main__":
    unittest.main()
