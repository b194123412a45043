import unittest

from calltrim.codes import Code
from calltrim.errors import Endless, InvalidText, TooLong
from calltrim.texts import read_code
from support import BACK, caught, is_plain, random_code, seeded

CODE = Code([("ask", "t.1", (3, 2)), ("call", 0), ("do", "add.3.4>5"), ("go", 4), BACK])
TEXT = "ask t.1 3 2\ncall 0\ndo add.3.4>5\ngo 4\nback"


def wrong_at(text):
    """The place that InvalidText must tell, None if the text is one of lines; written from the document alone."""
    texts = text.split("\n")
    at = 0
    for place, line in enumerate(texts):
        good = place < 32 and line in possible_texts(line, len(texts))
        if good and place == len(texts) - 1:
            good = line.split(" ")[0] in ("go", "back")
        if not good:
            return at
        at += len(line) + 1
    return None


def possible_texts(line, many):
    places = {str(place) for place in range(many)}
    parts = line.split(" ")
    good = parts == ["back"]
    if len(parts) == 2 and parts[0] in ("go", "call"):
        good = parts[1] in places
    if len(parts) == 2 and parts[0] == "do":
        good = parts[1] in ("t.1", "add.3.4>5", "a")
    if 3 <= len(parts) <= 6 and parts[0] == "ask":
        good = parts[1] in ("t.1", "add.3.4>5", "a") and set(parts[2:]) <= places
    return [line] if good else []


class TextsTest(unittest.TestCase):
    def test_str(self):
        self.assertEqual(str(CODE), TEXT)
        self.assertEqual(str(Code([BACK])), "back")

    def test_read_code(self):
        self.assertEqual(read_code(TEXT), CODE)
        self.assertEqual(read_code(text="back").lines, (BACK,))
        self.assertTrue(is_plain(read_code(TEXT).lines))

    def test_they_lead_back_to_one_another(self):
        source = seeded(5)
        for _ in range(200):
            code = random_code(source, source.randrange(1, 33))
            text = str(code)
            self.assertIs(type(text), str)
            self.assertEqual(read_code(text), code)
            self.assertEqual(str(read_code(text)), text)

    def assert_wrong(self, text, at):
        error = caught(self, InvalidText, read_code, text)
        self.assertEqual((error.text, error.at), (text, at))

    def test_wrong_texts(self):
        cases = {
            "": 0, "\n": 0, "\nback": 0, "back\n": 5, "back\n\nback": 5, "go 0\n\n": 5, " back": 0, "back ": 0,
            "do a": 0, "do a\nback\ndo a": 10, "do  a\nback": 0, " do a\nback": 0, "do a \nback": 0, "do\nback": 0,
            "go 1": 0, "go 00\nback": 0, "go 01\nback": 0, "go +1\nback": 0, "go -1\nback": 0, "go 2\nback": 0,
            "back\ngo": 5, "back\ngo ": 5, "back\ngo 0 0": 5, "back\ngo\t0": 5, "back\r\nback": 0, "back\rback": 0,
            "Back": 0, "BACK": 0, "back back": 0, "back 0": 0, "call 1": 0, "back\ncall 0": 5, "call\nback": 0,
            "ask t\nback": 0, "ask\nback": 0, "ask t 1 1 1 1 1\nback": 0, "ask t 2\nback": 0, "ask T 1\nback": 0,
            "ask t 1\n": 8, "ask t 0\nask t 0": 8, "do a.16\nback": 0, "do a.01\nback": 0, "do abcde\nback": 0,
            "go \u0661\nback": 0, "go 1.0\nback": 0, "go 1_0\nback": 0, "go 999999999999\nback": 0, "go x\nback": 0,
            "stay\nback": 0, "back\nstay\nback": 5, "back\x0bback": 0, "back\x0cback\nback": 0, "do a, back": 0,
            "ask t (1)\nback": 0, "ask t 1,1\nback": 0, "('back',)": 0, "go " + "1" * 12 + "\nback": 0,
        }
        for text, at in cases.items():
            self.assert_wrong(text, at)

    def test_32_and_33_lines(self):
        self.assertEqual(len(read_code("\n".join(["back"] * 32))), 32)
        for many in (33, 34, 50):
            self.assert_wrong("\n".join(["back"] * many), 32 * 5)
        self.assert_wrong("\n".join(["back"] * 32) + "\n", 32 * 5)
        # a target is looked at by the number of lines that the text has
        self.assert_wrong("\n".join(["go 32"] + ["back"] * 32), 6 + 31 * 5)
        self.assert_wrong("\n".join(["go 33"] + ["back"] * 32), 0)
        self.assert_wrong("\n".join(["back"] * 31 + ["do a"]), 31 * 5)

    def test_a_line_left_out_doubled_cut_or_empty(self):
        texts = TEXT.split("\n")
        for place in range(len(texts)):
            for change in ([], [texts[place]] * 2, [texts[place][:-1]], [""], [texts[place] + " "],
                           [" " + texts[place]], [texts[place].replace(" ", "  ")], [texts[place] + " 0"]):
                self.assert_as_written("\n".join(texts[:place] + change + texts[place + 1:]))

    def test_every_sign_taken_out_doubled_or_replaced(self):
        for at in range(len(TEXT)):
            for sign in ("", TEXT[at] * 2, "\n", " ", "0", "9", "a"):
                self.assert_as_written(TEXT[:at] + sign + TEXT[at + 1:])

    def assert_as_written(self, text):
        known = all(name in ("t.1", "add.3.4>5", "a") for name in
                    [line.split(" ")[1] for line in text.split("\n") if line[:3] in ("do ", "ask")
                     and line.count(" ")])
        at = wrong_at(text)
        if not known:
            return
        if at is not None:
            self.assert_wrong(text, at)
        else:
            try:
                self.assertEqual(str(read_code(text)), text)
            except Endless:
                pass

    def test_endless_and_too_long_texts(self):
        self.assertEqual(caught(self, Endless, read_code, "back\ngo 1").place, 1)
        self.assertEqual(caught(self, Endless, read_code, "call 0\nback").place, 0)
        stair = "\n".join([f"{word} {2 * step}" for step in range(1, 7) for word in ("call", "go")])
        self.assertEqual(caught(self, TooLong, read_code, stair + "\ndo a\nback").place, 0)
        self.assertEqual(caught(self, InvalidText, read_code, stair + "\ndo a\nback ").at, len(stair) + 6)
