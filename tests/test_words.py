import unittest

from odd import deep, odd_things

from seaplace import words
from seaplace.words import is_among, is_name, is_whole, is_word, number_of, words_of


class Words(unittest.TestCase):
    def test_constants(self):
        told = {
            "WORD": 65536, "REGIONS": 2, "CELLS": 8, "GIVENS": 4, "STEPS": 200, "HOLD": 1, "MOST": 2000,
            "MOST_BLOCKS": 12, "MOST_NODES": 40, "MOST_DEEDS": 5,
        }
        for name, worth in told.items():
            self.assertEqual(getattr(words, name), worth)

    def test_whole_numbers(self):
        for thing in (0, 1, -1, 10 ** 5000, -(10 ** 5000)):
            self.assertIs(is_whole(thing), True)
        for thing in (True, False, None, "1", b"1", (1,), [1], {}, deep(), object()):
            self.assertIs(is_whole(thing), False)

    def test_among(self):
        for thing, holds in ((2, False), (3, True), (4, True), (5, True), (6, False), (10 ** 5000, False)):
            self.assertIs(is_among(thing, 3, 5), holds)
            self.assertIs(is_among(thing=thing, least=3, most=5), holds)
        self.assertIs(is_among(3, 5, 3), False)
        self.assertIs(is_among(True, 0, 5), False)
        self.assertIs(is_among(False, 0, 5), False)

    def test_among_of_anything(self):
        for thing in odd_things():
            if not is_whole(thing):
                self.assertIs(is_among(thing, 0, 5), False)
                self.assertIs(is_among(1, thing, 5), False)
                self.assertIs(is_among(1, 0, thing), False)
                self.assertIs(is_word(1, most=thing), False)
        self.assertIs(is_among(1, -(10 ** 5000), 10 ** 5000), True)

    def test_word(self):
        for thing, holds in ((-1, False), (0, True), (1, True), (65535, True), (65536, False), (10 ** 5000, False)):
            self.assertIs(is_word(thing), holds)
        for thing, holds in ((0, True), (7, True), (8, False)):
            self.assertIs(is_word(thing, most=7), holds)
        for thing in (True, False, None, "1", (1,), deep()):
            self.assertIs(is_word(thing), False)
        with self.assertRaises(TypeError):
            is_word(1, 7)

    def test_name(self):
        for thing in ("a", "z", "top", "abcdefgh"):
            self.assertIs(is_name(thing), True)
        for thing in ("", "abcdefghi", "A", "aB", "a1", "a b", " a", "a\n", "a_", "a-b"):
            self.assertIs(is_name(thing), False)
        for thing in (None, True, 1, b"a", ("a",), ["a"], {"a": 1}, {"a"}, deep(), 10 ** 5000):
            self.assertIs(is_name(thing), False)

    def test_number(self):
        for word, number in (("0", 0), ("1", 1), ("9", 9), ("10", 10), ("65535", 65535), ("99999", 99999)):
            self.assertEqual(number_of(word), number)
        for word in ("", "00", "01", "012", "100000", "-1", "+1", "1 ", " 1", "1_0", "a", "0x1", "1\n"):
            self.assertIsNone(number_of(word))
        for word in (None, 1, True, b"1", ("1",), ["1"], deep(), 10 ** 5000):
            self.assertIsNone(number_of(word))

    def test_words_of_a_row(self):
        self.assertEqual(words_of("a"), ["a"])
        self.assertEqual(words_of("block a"), ["block", "a"])
        self.assertEqual(words_of("a b\nc"), ["a", "b\nc"])
        self.assertEqual(words_of("\n"), ["\n"])
        self.assertIsInstance(words_of("a b"), list)
        for row in ("", " ", "  ", " a", "a ", "a  b"):
            self.assertIsNone(words_of(row))
        for row in (None, 1, True, b"a b", ("a", "b"), ["a"], {}, deep()):
            self.assertIsNone(words_of(row))


if __name__ == "__main__":
    unittest.main()
