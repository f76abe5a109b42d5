"""Expressions with other names, own and lot: points 4 and 17."""

import unittest

from splittalk.errors import BadText
from splittalk.expression import expression_text, expression_value, read_expression

X = ("variable", "x")
LONG = ("variable", "abcdefgh")

TEXTS = [
    ("x", X), ("abcdefgh", LONG), ("own", ("own",)), ("lot", ("lot",)), ("7", ("number", 7)),
    ("+ own lot", ("+", ("own",), ("lot",))), ("mod x 3", ("mod", X, ("number", 3))),
    ("= own < lot x", ("=", ("own",), ("<", ("lot",), X))),
]
NAMES = ("x", "abcdefgh", "own", "lot")


class Expressions(unittest.TestCase):

    def test_reading(self):
        for text, expression in TEXTS:
            words = text.split(" ")
            self.assertEqual(read_expression(words, 0, NAMES), (expression, len(words)))

    def test_reading_among_other_words(self):
        for text, expression in TEXTS:
            words = ["set", "x"] + text.split(" ") + ["end", "x"]
            before = list(words)
            self.assertEqual(read_expression(words, 2, NAMES), (expression, len(words) - 2))
            self.assertEqual(words, before)

    def test_only_the_names_that_are_told(self):
        for word in NAMES:
            names = tuple(name for name in NAMES if name != word)
            for words, at in [([word], 0), (["+", word, "0"], 1), (["+", "0", word], 2)]:
                with self.assertRaises(BadText) as caught:
                    read_expression(words, 0, names)
                self.assertEqual(caught.exception.at, at)

    def test_missing_words(self):
        for words, at in [(["set", "x"], 2), (["set", "x", "+"], 2), (["set", "x", "+", "x"], 2)]:
            with self.assertRaises(BadText) as caught:
                read_expression(words, at, NAMES)
            self.assertEqual(caught.exception.at, len(words))

    def test_writing(self):
        for text, expression in TEXTS:
            self.assertEqual(expression_text(expression), text)

    def test_values(self):
        values = {"x": 5, "abcdefgh": 65535, "own": 7, "lot": 2}
        for text, value in [
            ("x", 5), ("abcdefgh", 65535), ("own", 7), ("lot", 2), ("7", 7), ("+ own lot", 9),
            ("mod x 3", 2), ("+ abcdefgh lot", 1), ("= own < lot x", 0), ("- x own", 0),
        ]:
            expression = read_expression(text.split(" "), 0, NAMES)[0]
            self.assertEqual(expression_value(expression, values), value)
        self.assertEqual(values, {"x": 5, "abcdefgh": 65535, "own": 7, "lot": 2})
