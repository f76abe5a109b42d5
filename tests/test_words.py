"""Words, names and numbers: point 2."""

import unittest

from splittalk.words import is_name, is_number, words_of


class Words(unittest.TestCase):

    def test_words(self):
        for text, words in [
            ("", []), ("a", ["a"]), ("+ a b", ["+", "a", "b"]), (" ", ["", ""]),
            (" a", ["", "a"]), ("a ", ["a", ""]), ("a  b", ["a", "", "b"]),
            ("a\tb", ["a\tb"]), ("a\nb c\n", ["a\nb", "c\n"]),
        ]:
            self.assertEqual(words_of(text), words)

    def test_names(self):
        for word in ("a", "b", "z", "abcdefgh", "zzzzzzzz", "row", "column", "number", "say",
                     "variable", "iff", "modulo", "ends", "talk"):
            self.assertIs(is_name(word), True, word)

    def test_words_that_are_no_names(self):
        for word in ("rows", "columns", "var", "set", "first", "second", "if", "else", "end",
                     "own", "lot", "mod"):
            self.assertIs(is_name(word), False, word)

    def test_no_names(self):
        for word in ("", "abcdefghi", "A", "aB", "a1", "1a", "a_b", "a-b", "+", "0", "a\n", "\ta",
                     "a b", "`", "{"):
            self.assertIs(is_name(word), False, word)

    def test_numbers(self):
        for number in range(65536):
            self.assertIs(is_number(str(number)), True, number)

    def test_no_numbers(self):
        for word in ("", "00", "01", "007", "00000", "65536", "65537", "70000", "99999", "100000",
                     "123456", "012345", "000001", "-1", "+1", "-0", "1.0", "1_0", "1e3", "0x1",
                     "1\n", "\t1", "1 ", "a", "1a", "/", ":"):
            self.assertIs(is_number(word), False, word)
