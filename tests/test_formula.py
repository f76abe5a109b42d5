"""Formulas: points 2, 4, 16 and 17 and the interface's splittalk/formula.py."""

import itertools
import unittest

from splittalk.errors import BadTable, BadText
from splittalk.formula import formula_table, formula_text, read_formula
from splittalk.table import Table

A = ("variable", "a")
B = ("variable", "b")
OPERATORS = ("+", "-", "*", "/", "mod", "<", "=")


def number(value):
    return ("number", value)


def at_of(text):
    """The at of the BadText that reading raises, or None."""
    try:
        read_formula(text)
    except BadText as error:
        return error.at
    return None


def expected_at(words):
    """The at by the depths that are left for the expressions that are still due."""
    left = [5]
    for at, word in enumerate(words):
        if not left:
            return at
        deepest = left.pop()
        if word in OPERATORS and deepest > 1:
            left += [deepest - 1, deepest - 1]
        elif word not in ("a", "b", "0", "65535"):
            return at
    return len(words) if left else None


def values(texts):
    """The value of each formula without names."""
    return [formula_table(read_formula(text), 1, 1).rows[0][0] for text in texts]


def full(depth):
    """The deepest formula of a depth, with expressions at all places."""
    if depth == 1:
        return A
    return ("+", full(depth - 1), full(depth - 1))


class Reading(unittest.TestCase):

    def test_each_kind(self):
        for text, formula in [
            ("a", A), ("b", B), ("0", number(0)), ("7", number(7)), ("65535", number(65535)),
            ("+ a b", ("+", A, B)), ("- a b", ("-", A, B)), ("* a 2", ("*", A, number(2))),
            ("/ 10 b", ("/", number(10), B)), ("mod a 3", ("mod", A, number(3))),
            ("< a b", ("<", A, B)), ("= b a", ("=", B, A)),
            ("= + a b 7", ("=", ("+", A, B), number(7))),
            ("+ a < b 4", ("+", A, ("<", B, number(4)))),
            ("mod + a a - b b", ("mod", ("+", A, A), ("-", B, B))),
        ]:
            self.assertEqual(read_formula(text), formula)
            self.assertEqual(formula_text(formula), text)
            self.assertIs(type(read_formula(text)), tuple)

    def test_written_formulas_are_read_again(self):
        leaves = [A, B, number(0), number(65535)]
        pairs = [(word, one, other) for word in OPERATORS for one in leaves for other in leaves]
        deeper = [(word, one, other) for word in OPERATORS for one in pairs[::9]
                  for other in pairs[::10] + leaves]
        for formula in leaves + pairs + deeper:
            self.assertEqual(read_formula(formula_text(formula)), formula)

    def test_depth_5(self):
        for word in OPERATORS:
            left, right = A, B
            for _ in range(4):
                left, right = (word, left, B), (word, A, right)
            self.assertEqual(read_formula(formula_text(left)), left)
            self.assertEqual(read_formula(formula_text(right)), right)
            self.assertEqual(formula_text(left), f"{word} {word} {word} {word} a b b b b")
            self.assertEqual(formula_text(right), f"{word} a {word} a {word} a {word} a b")
        self.assertEqual(read_formula(formula_text(full(5))), full(5))

    def test_depth_6(self):
        for word in OPERATORS:
            self.assertEqual(at_of(f"+ + + + {word} a b b b b b"), 4)
            self.assertEqual(at_of(f"+ + + + a {word} a b b b b"), 5)
            self.assertEqual(at_of(f"+ a + a + a + a {word} a b"), 8)
            self.assertEqual(at_of(f"+ a + a + a + {word} a b b"), 7)
            self.assertEqual(at_of(f"+ + + + a b + a b + a + a {word} a b b"), 13)
            self.assertEqual(at_of(f"+ + + + a b + a b + a + {word} a b b b"), 12)
            self.assertEqual(at_of(f"+ + + + a b + a b + a {word} a b b"), None)
            self.assertEqual(at_of(f"+ a + a + a + a {word}"), 8)
        self.assertEqual(at_of(formula_text(full(6))), 4)

    def test_numbers(self):
        for word in ("0", "9", "10", "99999"[:4], "65535", "10000"):
            self.assertEqual(read_formula(word), number(int(word)))
        for word in ("65536", "99999", "100000", "123456", "00", "01", "065", "-1", "+1", "1.0",
                     "1_0", "0x1"):
            self.assertEqual(at_of(word), 0, word)
            self.assertEqual(at_of(f"+ {word} a"), 1, word)
            self.assertEqual(at_of(f"+ a {word}"), 2, word)

    def test_no_words_of_a_formula(self):
        for word in ("c", "x", "aa", "ab", "own", "lot", "A", "B", "MOD", "Mod", "rows", "columns",
                     "var", "set", "first", "second", "if", "else", "end", "%", "//", "==", ">",
                     "<=", "(", ")", "(a", "a,", "number", "a1", "&"):
            self.assertEqual(at_of(word), 0, word)
            self.assertEqual(at_of(f"{word} a b"), 0, word)
            self.assertEqual(at_of(f"+ {word} a"), 1, word)
            self.assertEqual(at_of(f"+ a {word}"), 2, word)
            self.assertEqual(at_of(f"+ a b {word}"), 3, word)

    def test_spaces(self):
        for text, at in [
            ("", 0), (" ", 0), ("  ", 0), (" a", 0), ("a ", 1), (" + a b", 0), ("+  a b", 1),
            ("+ a  b", 2), ("+ a b ", 3), ("+ a b  ", 3), ("+ ", 1), ("+ a ", 2),
        ]:
            self.assertEqual(at_of(text), at, text)

    def test_newlines_and_tabs(self):
        for text, at in [
            ("a\n", 0), ("\na", 0), ("a\t", 0), ("\t", 0), ("\n", 0), ("1\n", 0), ("+\ta b", 0),
            ("+ a\nb", 1), ("+ a b\n", 2), ("+ a\t b", 1), ("+ a \tb", 2), ("+ a b \n", 3),
        ]:
            self.assertEqual(at_of(text), at, text)

    def test_ends_too_early(self):
        for text, at in [
            ("", 0), ("+", 1), ("+ a", 2), ("mod", 1), ("+ + a b", 4), ("+ a + b", 4),
            ("+ + + +", 4), ("+ + + + a", 5), ("+ a * 2", 4),
        ]:
            self.assertEqual(at_of(text), at, text)

    def test_goes_on_too_long(self):
        for text, at in [
            ("a a", 1), ("a b +", 1), ("0 0", 1), ("+ a b a", 3), ("+ a b + a b", 3),
            ("+ a b c d", 3), ("a mod b", 1), ("a + b", 1),
        ]:
            self.assertEqual(at_of(text), at, text)

    def test_the_first_wrong_word_is_told(self):
        self.assertEqual(at_of("+ c  d"), 1)
        self.assertEqual(at_of("+ a 65536 x y"), 2)

    def test_all_short_texts(self):
        words = ("a", "b", "0", "+", "mod", "c", "own", "")
        for many in range(1, 6):
            for chosen in itertools.product(words, repeat=many):
                text = " ".join(chosen)
                if text:
                    self.assertEqual(at_of(text), expected_at(chosen), text)

    def test_deep_texts(self):
        for chosen in itertools.product(("a", "+"), repeat=13):
            self.assertEqual(at_of(" ".join(chosen)), expected_at(chosen), chosen)


class Values(unittest.TestCase):

    def test_modulo(self):
        self.assertEqual(values(["+ 65535 0", "+ 65535 1", "+ 65535 65535", "+ 40000 30000"]),
                         [65535, 0, 65534, 4464])
        self.assertEqual(values(["* 256 256", "* 255 257", "* 65535 65535", "* 300 300", "* 0 9"]),
                         [0, 65535, 1, 24464, 0])

    def test_differences(self):
        self.assertEqual(values(["- 5 3", "- 3 3", "- 3 4", "- 0 65535", "- 65535 0"]),
                         [2, 0, 0, 0, 65535])

    def test_division(self):
        self.assertEqual(values(["/ 7 2", "/ 6 2", "/ 1 2", "/ 65535 1", "/ 65535 65535"]),
                         [3, 3, 0, 65535, 1])
        self.assertEqual(values(["/ 7 0", "/ 0 0", "/ 65535 0"]), [0, 0, 0])

    def test_mod(self):
        self.assertEqual(values(["mod 7 3", "mod 6 3", "mod 2 3", "mod 65535 65535"]),
                         [1, 0, 2, 0])
        self.assertEqual(values(["mod 7 0", "mod 0 0", "mod 65535 0"]), [0, 0, 0])

    def test_comparisons(self):
        self.assertEqual(values(["< 1 2", "< 2 2", "< 3 2", "< 0 65535"]), [1, 0, 0, 1])
        self.assertEqual(values(["= 1 2", "= 2 2", "= 3 2", "= 65535 65535"]), [0, 1, 0, 1])

    def test_each_operator_reckons_its_parts_first(self):
        self.assertEqual(
            values(["/ + 65535 2 1", "- 5 - 3 9", "+ < 1 2 = 3 3", "/ * 256 256 0", "mod 7 - 2 2",
                    "* + 65535 1 9", "= - 1 2 0", "< / 1 0 1"]),
            [1, 5, 2, 0, 0, 0, 1, 1])


class Tables(unittest.TestCase):

    def test_one_row_and_column(self):
        self.assertEqual(formula_table(A, 1, 1), Table([[0]]))
        self.assertEqual(formula_table(number(65535), 1, 1), Table([[65535]]))

    def test_eight_rows_and_columns(self):
        made = formula_table(("+", ("*", A, number(8)), B), 8, 8)
        self.assertEqual(made, Table([list(range(8 * row, 8 * row + 8)) for row in range(8)]))

    def test_a_is_the_row_and_b_the_column(self):
        self.assertEqual(formula_table(A, 2, 3), Table([[0, 0, 0], [1, 1, 1]]))
        self.assertEqual(formula_table(B, 2, 3), Table([[0, 1, 2], [0, 1, 2]]))
        self.assertEqual(formula_table(B, 3, 2), Table([[0, 1]] * 3))

    def test_each_operator(self):
        for word, rows in [
            ("+", [[0, 1, 2], [1, 2, 3], [2, 3, 4]]), ("-", [[0, 0, 0], [1, 0, 0], [2, 1, 0]]),
            ("*", [[0, 0, 0], [0, 1, 2], [0, 2, 4]]), ("/", [[0, 0, 0], [0, 1, 0], [0, 2, 1]]),
            ("mod", [[0, 0, 0], [0, 0, 1], [0, 0, 0]]), ("<", [[0, 1, 1], [0, 0, 1], [0, 0, 0]]),
            ("=", [[1, 0, 0], [0, 1, 0], [0, 0, 1]]),
        ]:
            self.assertEqual(formula_table((word, A, B), 3, 3), Table(rows), word)

    def test_is_a_table_of_tuples(self):
        made = formula_table(A, 2, 1)
        self.assertIs(type(made), Table)
        self.assertEqual(made.rows, ((0,), (1,)))

    def test_deeper_than_a_formula_that_is_read(self):
        self.assertEqual(formula_table(full(7), 3, 1), Table([[0], [64], [128]]))

    def test_sizes_that_no_table_has(self):
        for rows, columns, what in [
            (0, 1, "rows"), (9, 1, "rows"), (9, 9, "rows"), (0, 0, "rows"),
            (1, 0, "columns"), (8, 9, "columns"),
        ]:
            with self.assertRaises(BadTable) as caught:
                formula_table(A, rows, columns)
            self.assertEqual(caught.exception.what, what)
