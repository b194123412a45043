import itertools
import re
import unittest

from calltrim.errors import InvalidWord
from calltrim.words import is_word, word_of, word_parts
from support import ODD_VALUES, caught, is_plain

CELL = "(0|[1-9]|1[0-5])"
PATTERN = re.compile(f"[a-z]{{1,4}}([.]{CELL}){{0,3}}(>{CELL})?")

PARTS = {
    "a": ("a", (), ()), "abcd": ("abcd", (), ()), "add.3.4>5": ("add", (3, 4), (5,)), "z.0": ("z", (0,), ()),
    "z>15": ("z", (), (15,)), "add.15.15.0": ("add", (15, 15, 0), ()), "f.1.2.3>0": ("f", (1, 2, 3), (0,)),
}
WRONG = [
    "", "abcde", "A", "aB", "a1", "1", ".1", ">1", "a.16", "a>16", "a.1.2.3.4", "a>1>2", "a>1.2", "a.01", "a>01",
    "a.00", "a>00", "a.", "a>", "a..1", "a.>1", "a .1", " a", "a ", "a\n", "a.1\n", "a.-1", "a.+1", "a>-1", "a.1 ",
    "a. 1", "a,1", "a.1.", "a.x", "a>x", "a.1_0", "a.\u0661", "\u00e4", "\u0430", "a-", "a.100", "a.1>", "a.1>>2",
]


class WordsTest(unittest.TestCase):
    def test_words(self):
        for word, parts in PARTS.items():
            self.assertIs(is_word(word), True, word)
            self.assertEqual(word_parts(word), parts)
            self.assertTrue(is_plain(word_parts(word)))
            self.assertEqual(word_of(*parts), word)

    def test_no_words(self):
        for word in WRONG:
            self.assertIs(is_word(word), False, word)
            self.assertEqual(caught(self, InvalidWord, word_parts, word).value, word)

    def test_other_values(self):
        for value in ODD_VALUES:
            if value not in ("a", "back"):
                self.assertIs(is_word(value), False, value)
                self.assertIs(caught(self, InvalidWord, word_parts, value).value, value)

    def test_every_short_string_by_a_pattern(self):
        for length in range(5):
            for signs in itertools.product("az.>0159", repeat=length):
                text = "".join(signs)
                self.assertEqual(is_word(text), PATTERN.fullmatch(text) is not None, text)

    def test_every_cell(self):
        for cell in range(16):
            self.assertEqual(word_parts(f"a.{cell}>{cell}"), ("a", (cell,), (cell,)))
            self.assertEqual(word_of("a", (cell,), (cell,)), f"a.{cell}>{cell}")

    def test_signs_put_in_and_taken_out(self):
        word = "add.3.14>5"
        for at in range(len(word) + 1):
            for sign in ("", *"a.>05 \n-A"):
                for text in (word[:at] + sign + word[at:], word[:at] + sign + word[at + 1:]):
                    self.assertEqual(is_word(text), PATTERN.fullmatch(text) is not None, text)

    def test_parts_that_are_no_words_parts(self):
        wrong = [
            ("", (), ()), ("abcde", (), ()), ("A", (), ()), ("a.1", (), ()), ("a>1", (), ()), (None, (), ()),
            (1, (), ()), (("a",), (), ()), ("a", [], ()), ("a", (), []), ("a", (16,), ()), ("a", (), (16,)),
            ("a", (-1,), ()), ("a", (True,), ()), ("a", (), (False,)), ("a", (1, 2, 3, 4), ()), ("a", (), (1, 2)),
            ("a", ("1",), ()), ("a", None, ()), ("a", (), None), ("a", (), 1), ("a", ((1,),), ()), ("a", 3, 4),
        ]
        for parts in wrong:
            error = caught(self, InvalidWord, word_of, *parts)
            self.assertIs(type(error.value), tuple)
            self.assertEqual(error.value, parts)
        given = [1]
        self.assertIs(caught(self, InvalidWord, word_of, "a", given, ()).value[1], given)

    def test_parameter_names(self):
        self.assertTrue(is_word(value="a"))
        self.assertEqual(word_parts(word="a"), ("a", (), ()))
        self.assertEqual(word_of(name="a", reads=(1,), writes=(2,)), "a.1>2")
