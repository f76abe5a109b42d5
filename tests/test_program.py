"""Programs and their texts: points 1, 2, 4, 15, 16 and 17 and splittalk/program.py."""

import itertools
import random
import unittest

from examples import at_of, number, some_program_words
from splittalk.errors import BadText
from splittalk.program import Program, program_text, read_program

X = ("variable", "x")
Y = ("variable", "y")
OWN = ("own",)
LOT = ("lot",)
HEAD = "rows 2 columns 3"
VARS = f"{HEAD} var x 4 var y 2"
NO_NAMES = ("rows", "columns", "var", "set", "first", "second", "if", "else", "end", "own", "lot",
            "mod")
OPERATORS = ("+", "-", "*", "/", "mod", "<", "=")


def at_behind(head, text):
    """The at that reading raises, counted from the first word behind a head, or None."""
    at = at_of(f"{head} {text}")
    return None if at is None else at - len(head.split(" "))


class Grammar:
    """What may still follow in a text: a stack of what is due, without recursion."""

    def __init__(self):
        self.due = [("block", 0), ("variables", 4), ("number", 1, 8), ("word", "columns"),
                    ("number", 1, 8), ("word", "rows")]
        self.names = []
        self.said = 0

    def begins(self, word, depth):
        if word == "if":
            return depth < 4
        return bool(self.names) and (word == "set" or self.speaks(word))

    def speaks(self, word):
        return word in ("first", "second") and self.said < 6

    def takes(self, word):
        """Whether a word may follow; then it is taken."""
        while self.due:
            kind, *limits = self.due.pop()
            if kind == "variables" and not (word == "var" and limits[0]):
                continue
            if kind == "block" and not self.begins(word, limits[0]):
                continue
            return getattr(self, f"take_{kind}")(word, *limits)
        return False

    def may_end(self):
        return all(kind in ("variables", "block") for kind, *_ in self.due)

    def take_word(self, word, wanted):
        return word == wanted

    def take_number(self, word, least, most):
        return word.isdigit() and str(int(word)) == word and least <= int(word) <= most

    def take_variables(self, word, many):
        self.due += [("variables", many - 1), ("number", 1, 65535), ("new",)]
        return True

    def take_new(self, word):
        fits = word.isalpha() and word.islower() and len(word) < 9 and word not in NO_NAMES
        self.names.append(word)
        return fits and word not in self.names[:-1]

    def take_old(self, word):
        return word in self.names

    def take_value(self, word, depth, more):
        if word in OPERATORS:
            self.due += [("value", depth - 1, more)] * 2
            return depth > 1
        return word in self.names + more or self.take_number(word, 0, 65535)

    def take_block(self, word, depth):
        return self.take_statement(word, depth, ("block", depth))

    def take_some(self, word, depth):
        return self.begins(word, depth) and self.take_block(word, depth)

    def take_statement(self, word, depth, behind):
        self.due.append(behind)
        if word == "if":
            self.due += [("close", depth + 1), ("block", depth + 1), ("value", 5, [])]
        elif word == "set":
            self.due += [("value", 5, []), ("old",)]
        else:
            self.said += 1
            self.due += [("value", 5, ["own", "lot"]), ("number", 1, 8), ("number", 1, 4), ("old",)]
        return True

    def take_close(self, word, depth):
        if word == "else":
            self.due += [("word", "end"), ("some", depth)]
            return bool(self.names) or depth < 4
        return word == "end"


def expected_at(words):
    grammar = Grammar()
    for at, word in enumerate(words):
        if not grammar.takes(word):
            return at
    return None if grammar.may_end() else len(words)


class Texts(unittest.TestCase):
    """Texts of programs, with the data that they write."""

    def check(self, text, rows, columns, variables, block):
        program = read_program(text)
        self.assertIsInstance(program, Program)
        self.assertEqual((program.rows, program.columns), (rows, columns))
        self.assertEqual((program.variables, program.block), (variables, block))
        self.assertTrue(program == Program(rows, columns, variables, block))
        self.assertEqual(program_text(program), text)

    def block(self, text, block):
        self.check(f"{VARS} {text}", 2, 3, (("x", 4), ("y", 2)), block)

    def test_nothing_but_a_head(self):
        self.check("rows 1 columns 1", 1, 1, (), ())
        self.check("rows 8 columns 2", 8, 2, (), ())
        self.check("rows 2 columns 8", 2, 8, (), ())

    def test_variables(self):
        self.check("rows 1 columns 1 var x 1", 1, 1, (("x", 1),), ())
        self.check(
            "rows 1 columns 1 var d 65535 var c 7 var abcdefgh 10 var a 2", 1, 1,
            (("d", 65535), ("c", 7), ("abcdefgh", 10), ("a", 2)), (),
        )

    def test_set(self):
        self.block("set x 0", (("set", "x", number(0)),))
        self.block("set y x", (("set", "y", X),))
        self.block("set x + x y set x x", (("set", "x", ("+", X, Y)), ("set", "x", X)))

    def test_first_and_second(self):
        self.block("first x 2 1 own", (("say", 1, "x", 2, 1, OWN),))
        self.block("second y 4 8 lot", (("say", 2, "y", 4, 8, LOT),))
        self.block("second x 1 3 mod + own lot x first y 3 2 5", (
            ("say", 2, "x", 1, 3, ("mod", ("+", OWN, LOT), X)), ("say", 1, "y", 3, 2, number(5)),
        ))

    def test_if(self):
        self.block("if x end", (("if", X, (), ()),))
        self.block("if x set y 1 end", (("if", X, (("set", "y", number(1)),), ()),))
        self.block("if 1 else set y 1 end", (("if", number(1), (), (("set", "y", number(1)),)),))
        self.block("if < x 3 set x 0 set y 1 else first x 2 1 own set x 2 end set y 0", (
            ("if", ("<", X, number(3)), (("set", "x", number(0)), ("set", "y", number(1))),
             (("say", 1, "x", 2, 1, OWN), ("set", "x", number(2)))),
            ("set", "y", number(0)),
        ))

    def test_if_in_if(self):
        inner = ("if", Y, (), (("if", number(0), (), ()),))
        self.block("if x if y else if 0 end end end", (("if", X, (inner,), ()),))
        self.block("if x else if y else if 0 end end end", (("if", X, (), (inner,)),))
        self.block("if x end if y end", (("if", X, (), ()), ("if", Y, (), ())))

    def test_if_without_variables(self):
        inner = ("if", number(7), (), ())
        self.check("rows 1 columns 2 if 7 end", 1, 2, (), (inner,))
        self.check("rows 1 columns 2 if + 1 2 if 7 end else if 7 end end", 1, 2, (),
                   (("if", ("+", number(1), number(2)), (inner,), (inner,)),))

    def test_each_operator(self):
        for word in OPERATORS:
            self.block(f"set x {word} y 2", (("set", "x", (word, Y, number(2))),))

    def test_names_that_look_like_other_words(self):
        for name in ("a", "b", "row", "iff", "number", "variable", "say", "mods", "talk", "z"):
            self.check(f"rows 1 columns 1 var {name} 2 set {name} {name}", 1, 1, ((name, 2),),
                       (("set", name, ("variable", name)),))

    def test_blocks_and_pairs_are_tuples(self):
        program = read_program(f"{VARS} if x set x 1 else set y own end".replace(" own", " 2"))
        test, then, otherwise = program.block[0][1:]
        for thing in (program.variables, program.variables[0], program.block, program.block[0],
                      test, then, then[0], then[0][2], otherwise, otherwise[0]):
            self.assertIs(type(thing), tuple)
        self.assertIs(type(program.rows), int)
        self.assertIs(type(program.variables[0][1]), int)

    def test_a_text_of_data_beyond_the_limits(self):
        program = Program(9, 12, [["x", 70000]], [["say", 1, "x", 5, 9, ["own"]]])
        self.assertEqual(program_text(program), "rows 9 columns 12 var x 70000 first x 5 9 own")

    def test_writing_lists(self):
        self.assertEqual(
            program_text(Program(1, 2, [["x", 3]], [["if", ["own"], [], [["set", "x", ["lot"]]]]])),
            "rows 1 columns 2 var x 3 if own else set x lot end",
        )


class Wrong(unittest.TestCase):
    """Texts that are none of a program, with their first wrong words."""

    def check(self, text, at):
        self.assertEqual(at_of(text), at, text)

    def behind(self, text, at, head=VARS):
        """The at is counted from the first word behind the head."""
        self.assertEqual(at_behind(head, text), at, text)

    def test_no_words(self):
        self.check("", 0)
        for text in ("\n", "\t", "rows", " "):
            self.check(text, 1 if text == "rows" else 0)

    def test_rows_and_columns(self):
        for wrong in ("0", "9", "10", "01", "08", "-1", "+1", "a", "65536", "100000", "1.0"):
            self.check(f"rows {wrong} columns 1", 1)
            self.check(f"rows 1 columns {wrong}", 3)
        for right in "12345678":
            self.check(f"rows {right} columns 1", None)
            self.check(f"rows 1 columns {right}", None)

    def test_the_words_of_the_head(self):
        for text, at in [
            ("columns 1 rows 1", 0), ("row 1 columns 1", 0), ("1 rows", 0), ("ROWS 1 columns 1", 0),
            ("Rows 1 columns 1", 0), ("rows 1 rows 1", 2), ("rows 1 1", 2), ("rows 1 column 1", 2),
            ("rows 1 Columns 1", 2), ("rows columns 1 1", 1), ("var x 1 rows 1 columns 1", 0),
            ("rows 1 var x 1 columns 1", 2), ("set x 1", 0),
        ]:
            self.check(text, at)

    def test_sizes(self):
        for right in ("1", "2", "9", "10", "9999", "10000", "65535"):
            self.behind(f"var x {right}", None, HEAD)
        for wrong in ("0", "65536", "99999", "100000", "00", "01", "00001", "-1", "+1", "x", "1x"):
            self.behind(f"var x {wrong}", 2, HEAD)
            self.behind(f"var x 1 var y {wrong} var z 1", 5, HEAD)

    def test_four_and_five_variables(self):
        four = "var a 1 var b 2 var c 3 var d 4"
        self.behind(four, None, HEAD)
        self.behind(f"{four} set d a", None, HEAD)
        self.behind(f"{four} var", 12, HEAD)
        self.behind(f"{four} var e 5", 12, HEAD)
        self.behind(f"{four} var a 5", 12, HEAD)

    def test_the_same_name_twice(self):
        self.behind("var x 1 var x 1", 4, HEAD)
        self.behind("var x 1 var y 1 var x 2", 7, HEAD)
        self.behind("var x 1 var y 1 var z 1 var y 1", 10, HEAD)
        self.behind("var x 1 var xx 1 var xxx 1", None, HEAD)

    def test_words_that_are_no_names(self):
        for word in (*NO_NAMES, "+", "-", "*", "/", "<", "=", "0", "1", "65535", "x1", "1x", "x_y",
                     "X", "Xy", "xY", "abcdefghi", "rows\n", "x\n", "\tx", "", "{", "`"):
            self.behind(f"var {word} 1", 1, HEAD)
            self.behind(f"var x 1 var {word} 1", 4, HEAD)
            self.behind(f"set {word} 1", 1)
            self.behind(f"first {word} 1 1 1", 1)
            self.behind(f"second {word} 1 1 1", 1)

    def test_names_of_8_and_9_letters(self):
        self.behind("var abcdefgh 1 set abcdefgh abcdefgh", None, HEAD)
        self.behind("var abcdefgh 1 set abcdefgi 1", 4, HEAD)
        self.behind("var abcdefgh 1 set abcdefghi 1", 4, HEAD)
        self.behind("var abcdefgh 1 var abcdefghi 1", 4, HEAD)

    def test_variables_that_are_not_declared(self):
        for text, at in [
            ("set z 1", 1), ("set x z", 2), ("set x + z 1", 3), ("set x + 1 z", 4),
            ("first z 1 1 1", 1), ("first x 1 1 z", 4), ("second z 1 1 1", 1),
            ("second x 1 1 * own z", 6), ("if z end", 1), ("if = x z end", 3),
            ("if x set z 1 end", 3), ("if x else set z 1 end", 4), ("set a 1", 1), ("set x b", 2),
        ]:
            self.behind(text, at)

    def test_a_variable_behind_a_statement(self):
        self.behind("set x 1 var z 1", 3)
        self.behind("if x var z 1 end", 2)
        self.behind("if 1 end var z 1", 3, HEAD)
        self.behind("var x 1 set x 1 var y 1", 6, HEAD)

    def test_statements_that_need_a_variable(self):
        for word in ("set", "first", "second"):
            self.behind(f"{word} x 1 1 1", 0, HEAD)
            self.behind(f"if 1 {word} x 1 1 1 end", 2, HEAD)
            self.behind(f"if 1 else {word} x 1 1 1 end", 3, HEAD)
            self.behind(f"if 1 end {word}", 3, HEAD)
        self.behind("if x end", 1, HEAD)

    def test_own_and_lot(self):
        for word in ("own", "lot"):
            for text, at in [
                (f"set x {word}", 2), (f"set x + {word} 1", 3), (f"set x + 1 {word}", 4),
                (f"if {word} end", 1), (f"if < 1 {word} end", 3), (f"if < {word} 1 end", 2),
                (f"if x set x {word} end", 4), (f"if x if {word} end end", 3),
                (f"first x 2 2 own set x {word}", 7),
                (f"first x 2 2 {word}", None), (f"second x 2 2 {word}", None),
                (f"first x 2 2 + {word} 1", None), (f"second x 2 2 - 1 {word}", None),
                (f"if x first x 2 2 {word} end", None), (f"set {word} 1", 1),
                (f"first {word} 1 1 1", 1), (f"first x {word} 1 1", 2), (f"first x 1 {word} 1", 3),
            ]:
                self.behind(text, at)

    def test_numbers_of_messages(self):
        for word in ("first", "second"):
            for right in "1234":
                self.behind(f"{word} x {right} 1 own", None)
            for wrong in ("0", "5", "9", "10", "01", "04", "-1", "x", "own", ""):
                self.behind(f"{word} x {wrong} 1 own", 2)

    def test_numbers_of_lots(self):
        for word in ("first", "second"):
            for right in "12345678":
                self.behind(f"{word} x 1 {right} own", None)
            for wrong in ("0", "9", "10", "01", "08", "-1", "x", "lot", ""):
                self.behind(f"{word} x 1 {wrong} own", 3)

    def test_six_and_seven_messages(self):
        one, two = "first x 1 1 1", "second y 1 1 1"
        self.behind(" ".join([one, two] * 3), None)
        self.behind(" ".join([one] * 6), None)
        self.behind(" ".join([two] * 6), None)
        for seventh in (one, two):
            self.behind(" ".join([one, two, one, two, one, two, seventh]), 30)
            self.behind(" ".join([one] * 6 + [seventh]), 30)
            self.behind(" ".join([one] * 6 + ["set x 1", seventh]), 33)
        self.behind(" ".join([one] * 6 + ["set x 1 if x set y 1 end"]), None)

    def test_six_and_seven_messages_in_branches(self):
        one, two = "first x 1 1 1", "second y 1 1 1"
        for three in (" ".join([one] * 3), " ".join([two] * 3)):
            self.behind(f"if x {three} else {three} end", None)
            self.behind(f"if x {three} else {three} {one} end", 33)
            self.behind(f"if x {three} {one} else {three} end", 33)
            self.behind(f"if x {three} else {three} end {two}", 34)
            self.behind(f"{one} if x {three} else {three} end", 33)
            self.behind(f"if x {three} end if y {three} end set x 1", None)
            self.behind(f"if x {three} end if y {three} end {one}", 36)
            self.behind(f"if x {three} {three} else {one} end", 33)
            self.behind(f"if x {three} {three} else set x 1 end", None)
        self.behind(" ".join([f"if x {one} else {two} end"] * 3), None)
        self.behind(" ".join([f"if x {one} else {two} end"] * 4), 44)

    def test_depth_of_if(self):
        for head in (HEAD, VARS):
            for many in (1, 2, 3, 4):
                self.behind(" ".join(["if 1"] * many + ["end"] * many), None, head)
            for many in (5, 6):
                self.behind(" ".join(["if 1"] * many + ["end"] * many), 8, head)
            self.behind("if 1 if 1 if 1 if 1 end if 1 end end end end", None, head)
            self.behind("if 1 if 1 if 1 if 1 end if 1 if 1", 11, head)
            self.behind("if 1 else if 1 else if 1 else if 1 end end end end", None, head)
            self.behind("if 1 else if 1 else if 1 else if 1 if", 11, head)
            self.behind("if 1 if 1 end else if 1 if 1 if 1 end end end end if 1 end", None, head)
        self.behind("if 1 else if 1 else if 1 else if 1 else if", 12)
        self.behind("if 1 if 1 if 1 if 1 set x 1 if", 11)

    def test_depth_of_expressions(self):
        for word in OPERATORS:
            for head, at in (("set x", 2), ("first x 1 1", 4), ("second x 1 1", 4), ("if", 1)):
                end = " end" if head == "if" else ""
                self.behind(f"{head} {word} + + + x 1 1 1 1{end}", None)
                self.behind(f"{head} + x + x + x {word} x 1{end}", None)
                self.behind(f"{head} + + + + {word} 1 1 1 1 1 1{end}", at + 4)
                self.behind(f"{head} + + + + x {word} 1 1 1 1 1{end}", at + 5)
                self.behind(f"{head} + x + x + x + {word} 1 1 1{end}", at + 7)
                self.behind(f"{head} + x + x + x + x {word} 1 1{end}", at + 8)

    def test_else(self):
        for head in (HEAD, VARS):
            for text, at in [
                ("if 1 else end", 3), ("if 1 else", 3), ("if 1 else else", 3), ("if 1 else 1", 3),
                ("if 1 if 1 end else end", 6), ("if 1 else if 1 end", 6),
                ("if 1 else if 1 end else", 6), ("if 1 else if 1 end else if 1 end end", 6),
                ("if 1 if 1 end else if 1 end else if 1 end end", 9), ("else", 0),
                ("if 1 end else", 3), ("if 1 end else if 1 end end", 3), ("if else", 1),
                ("if 1 else if 1 else if 1 end end end", None),
            ]:
                self.behind(text, at, head)
        for text, at in [
            ("if x else set x 1 end", None), ("if x else set x 1 else set x 1 end", 6),
            ("if x set x 1 else end", 6), ("set x 1 else", 3), ("if x else first x 1 1 1", 8),
        ]:
            self.behind(text, at)

    def test_end(self):
        for head in (HEAD, VARS):
            for text, at in [
                ("end", 0), ("if 1 end end", 3), ("if 1", 2), ("if end", 1), ("if 1 if 1 end", 5),
                ("if 1 if 1 end end", None), ("if 1 if 1 end end end", 6), ("if 1 1 end", 2),
            ]:
                self.behind(text, at, head)
        self.behind("set x 1 end", 3)
        self.behind("if x set x end", 4)

    def test_else_at_the_greatest_depth(self):
        four = "if 1 if 1 if 1 if 1"
        self.behind(f"{four} end else if 1 end end end end", None, HEAD)
        self.behind(f"{four} else if 1", 8, HEAD)
        self.behind(f"{four} else", 8, HEAD)
        self.behind(f"{four} else end end end end", 8, HEAD)
        self.behind("if 1 else if 1 else if 1 else if 1 else", 11, HEAD)
        self.behind(f"{four} end if 1 else", 11, HEAD)
        self.behind(f"{four}", 8, HEAD)
        self.behind(f"{four} else", 9)
        self.behind(f"{four} else if 1", 9)
        self.behind(f"{four} else end", 9)
        self.behind(f"{four} else set x 1 end end end end", None)
        self.behind(f"{four} else first x 1 1 1 end end end end", None)
        # With all messages used up there is still set.
        used = " ".join(["first x 1 1 1"] * 6)
        self.behind(f"{used} {four} else", 39)
        self.behind(f"{used} {four} else first", 39)
        self.behind(f"{used} {four} else set x 1 end end end end", None)
        self.behind(f"{four} {used} else", 39)
        self.behind(f"{four} {used} else second x 1 1 1", 39)
        self.behind(f"{four} {used} else set y 1 end end end end", None)

    def test_numbers(self):
        for right in ("0", "9", "10", "9999", "10000", "65535"):
            self.behind(f"set x {right}", None)
        for wrong in ("00", "01", "0123", "00000", "65536", "99999", "100000", "123456", "-1", "+1",
                      "-0", "1.0", "1_0", "1e3", "0x1", "1\n"):
            self.behind(f"set x {wrong}", 2)
            self.behind(f"set x + {wrong} 1", 3)
            self.behind(f"set x + 1 {wrong}", 4)
            self.behind(f"if {wrong} end", 1)
            self.behind(f"first x 1 1 {wrong}", 4)

    def test_capital_letters(self):
        for text, at in [
            ("SET x 1", 0), ("Set x 1", 0), ("set X 1", 1), ("set x X", 2), ("set x MOD 1 2", 2),
            ("IF 1 end", 0), ("if 1 END", 2), ("if 1 Else set x 1 end", 2), ("First x 1 1 1", 0),
            ("first x 1 1 Own", 4), ("first x 1 1 LOT", 4), ("SECOND x 1 1 1", 0), ("VAR z 1", 0),
        ]:
            self.behind(text, at)
        self.behind("Var x 1", 0, HEAD)

    def test_spaces(self):
        for text, at in [
            (" ", 0), ("  ", 0), (" rows 1 columns 1", 0), ("rows  1 columns 1", 1),
            ("rows 1  columns 1", 2), ("rows 1 columns  1", 3), ("rows 1 columns 1 ", 4),
            ("rows 1 columns 1  ", 4), ("rows ", 1), ("rows 1 ", 2), ("rows 1 columns ", 3),
        ]:
            self.check(text, at)
        words = f"{VARS} if x set x 1 else first x 2 1 own end".split(" ")
        for at in range(len(words)):
            self.check(" ".join(words[:at] + [""] + words[at:]), at)
        self.check(" ".join(words + [""]), len(words))

    def test_newlines_and_tabs(self):
        for sign in "\n\t":
            for text, at in [
                (f"rows{sign}1 columns 1", 0), (f"rows 1{sign}columns 1", 1),
                (f"rows 1 columns 1{sign}", 3), (f"{sign}rows 1 columns 1", 0),
                (f"rows 1 columns 1 {sign}", 4), (f"rows 1 {sign} columns 1", 2),
                (f"rows 1 columns 1{sign}var x 1", 3), (f"rows 1 columns 1 var x{sign} 1", 5),
                (f"rows 1 columns 1 var x 1{sign}", 6),
            ]:
                self.check(text, at)
            self.behind(f"set x 1{sign}set x 1", 2)
            self.behind(f"set x{sign} 1", 1)
            self.behind(f"if x{sign} end", 1)
            self.behind(f"if x end{sign}", 2)

    def test_ends_too_early_at_every_word(self):
        text = (f"{VARS} set x + y * 2 x first x 2 3 mod own lot if < x 1 second y 1 1 0 "
                "if y else set x 1 end else if 1 end set y 0 end")
        words = text.split(" ")
        self.check(text, None)
        # The ends of the variables and of the statements in no if.
        whole = [4, 7, 10, 17, 24, len(words)]
        for many in range(len(words)):
            self.check(" ".join(words[:many]), None if many in whole else many)

    def test_goes_on_too_long(self):
        for text, at in [
            ("1", 0), ("x", 0), ("set x 1 1", 3), ("set x 1 x", 3), ("set x + 1 2 3", 5),
            ("first x 1 1 1 1", 5), ("if 1 end 1", 3), ("if 1 end end", 3), ("own", 0),
            ("set x 1 rows 2 columns 3", 3), ("if 1 2 end", 2), ("if 1 x set x 1 end", 2),
        ]:
            self.behind(text, at)
        self.check("rows 1 columns 1 1", 4)
        self.check("rows 1 columns 1 rows 1 columns 1", 4)
        self.check("rows 1 columns 1 columns", 4)

    def test_words_that_begin_no_statement(self):
        for word in ("rows", "columns", "else", "end", "own", "lot", "mod", "x", "say", "1",
                     "+", "third", "then", "", "settle"):
            self.behind(word, 0)
            self.behind(f"set x 1 {word}", 3)
            if word != "end":
                self.behind(f"if 1 else set x 1 {word}", 6)
                self.behind(f"if 1 set x 1 {word}", 6 if word == "else" else 5)

    def test_the_first_wrong_word_is_told(self):
        self.check("rows 9 columns 0 var 1", 1)
        self.behind("set z  01", 1)
        self.behind("if 1 else end end", 3)


class Every(unittest.TestCase):
    """Reading beside the grammar above, for many texts."""

    def test_short_texts(self):
        words = ("if", "1", "else", "end", "set", "x", "var", "own")
        for head in (["rows", "1", "columns", "1"], ["rows", "1", "columns", "1", "var", "x", "1"]):
            for many in range(5):
                for chosen in itertools.product(words, repeat=many):
                    texted = head + list(chosen)
                    self.assertEqual(at_of(" ".join(texted)), expected_at(texted), texted)

    def test_nested_ifs(self):
        for head in (["rows", "1", "columns", "1"], ["rows", "1", "columns", "1", "var", "x", "1"]):
            for chosen in itertools.product(("if 1", "else", "end"), repeat=8):
                texted = head + " ".join(chosen).split(" ")
                self.assertEqual(at_of(" ".join(texted)), expected_at(texted), texted)

    def test_texts_of_programs(self):
        chance = random.Random(61)
        seen = set()
        for _ in range(400):
            words = some_program_words(chance)
            self.assertIsNone(expected_at(words))
            text = " ".join(words)
            self.assertEqual(program_text(read_program(text)), text)
            seen.update(words)
        self.assertTrue({"set", "first", "second", "if", "else", "end", *OPERATORS} <= seen)

    def changed(self, chance, words):
        """Words, with a few of them left out, doubled, moved or replaced."""
        made = list(words)
        for _ in range(chance.randint(1, 3)):
            at = chance.randrange(len(made))
            other = chance.choice(made + ["if", "1", "else", "end", "set", "own", "0", "first", ""])
            start, stop = chance.choice(((at, at), (at, at + 1)))
            made[start:stop] = chance.choice(([other], [], [made[at]]))
        return made

    def test_changed_texts(self):
        chance = random.Random(62)
        wrong = 0
        for _ in range(3000):
            words = self.changed(chance, some_program_words(chance))
            at = at_of(" ".join(words))
            self.assertEqual(at, expected_at(words), words)
            wrong += at is not None
        self.assertGreater(wrong, 1000)

    def test_what_is_ahead_of_the_first_wrong_word_goes_on_to_a_program(self):
        chance = random.Random(63)
        for _ in range(150):
            words = self.changed(chance, some_program_words(chance))
            at = at_of(" ".join(words))
            if at is not None:
                made = words[:at]
                while at_of(" ".join(made)) is not None:
                    made.append(next(
                        word for word in ("end", "0", "1", "rows", "columns", "set", "if", "x", "q", "w",
                                          "v", *words)
                        if at_of(" ".join([*made, word])) in (None, len(made) + 1)
                    ))
                self.assertEqual(program_text(read_program(" ".join(made))), " ".join(made))

    def test_long_texts(self):
        words = VARS.split(" ") + ["set", "x", "+", "x", "1"] * 20000
        self.assertEqual(len(read_program(" ".join(words)).block), 20000)
        self.assertEqual(at_of(" ".join([*words, "end"])), len(words))


class Programs(unittest.TestCase):

    BLOCK = (("set", "x", ("+", X, number(1))), ("if", X, (("say", 1, "x", 2, 1, OWN),), ()))

    def made(self):
        return Program(2, 3, (("x", 4), ("y", 2)), self.BLOCK)

    def test_fields(self):
        program = Program(rows=2, columns=3, variables=(("x", 4),), block=self.BLOCK)
        self.assertEqual((program.rows, program.columns), (2, 3))
        self.assertEqual((program.variables, program.block), ((("x", 4),), self.BLOCK))

    def test_nothing_in_it(self):
        for nothing in ((), []):
            program = Program(1, 1, nothing, nothing)
            self.assertEqual((program.variables, program.block), ((), ()))

    def test_lists_at_every_depth_are_kept_as_tuples(self):
        def listed(data):
            return [listed(part) for part in data] if isinstance(data, tuple) else data

        def mixed(data, turn=0):
            if not isinstance(data, (tuple, list)):
                return data
            parts = [mixed(part, turn + 1 + k) for k, part in enumerate(data)]
            return parts if turn % 2 else tuple(parts)

        for change in (listed, mixed, lambda data: mixed(data, 1)):
            variables, block = change((("x", 4), ("y", 2))), change(self.BLOCK)
            kept = repr((variables, block))
            program = Program(2, 3, variables, block)
            self.assertEqual(repr((program.variables, program.block)),
                             repr(((("x", 4), ("y", 2)), self.BLOCK)))
            self.assertTrue(program == self.made())
            self.assertEqual(repr((variables, block)), kept)

    def test_changing_the_lists_changes_no_program(self):
        pair, test, say = ["x", 4], ["variable", "x"], ["say", 1, "x", 2, 1, ["own"]]
        then, variables = [say], [pair, ["y", 2]]
        value = ["+", ["variable", "x"], ["number", 1]]
        block = [["set", "x", value], ["if", test, then, []]]
        program = Program(2, 3, variables, block)
        pair[1] = 5
        test[1] = "y"
        say[5][0] = "lot"
        say[1] = 2
        value[2][1] = 7
        value.append(1)
        then.append(say)
        block[1][3].append(say)
        block.pop()
        variables.clear()
        self.assertTrue(program == self.made())
        self.assertEqual(program_text(program), program_text(self.made()))

    def test_equal(self):
        self.assertIs(self.made() == self.made(), True)
        self.assertIs(self.made() != self.made(), False)
        text = program_text(self.made())
        self.assertIs(read_program(text) == self.made(), True)

    def test_one_field_differs(self):
        block = self.BLOCK
        for other in (
            Program(3, 3, (("x", 4), ("y", 2)), block), Program(2, 2, (("x", 4), ("y", 2)), block),
            Program(3, 2, (("x", 4), ("y", 2)), block), Program(2, 3, (("x", 4), ("y", 3)), block),
            Program(2, 3, (("x", 4), ("z", 2)), block), Program(2, 3, (("y", 2), ("x", 4)), block),
            Program(2, 3, (("x", 4),), block), Program(2, 3, (), block),
            Program(2, 3, (("x", 4), ("y", 2)), ()),
            Program(2, 3, (("x", 4), ("y", 2)), block[:1]),
            Program(2, 3, (("x", 4), ("y", 2)), block[::-1]),
            Program(2, 3, (("x", 4), ("y", 2)), (block[0], (*block[1][:3], block[1][2]))),
            Program(2, 3, (("x", 4), ("y", 2)), (("set", "x", ("+", X, number(2))), block[1])),
        ):
            for one, two in ((self.made(), other), (other, self.made())):
                self.assertIs(one == two, False)
                self.assertIs(one != two, True)

    def test_other_kinds(self):
        for thing in (None, 1, "rows 2", (2, 3), (2, 3, (("x", 4), ("y", 2)), self.BLOCK)):
            self.assertIs(self.made() == thing, False)
            self.assertIs(self.made() != thing, True)

    def test_writing_changes_nothing(self):
        program = self.made()
        program_text(program)
        self.assertTrue(program == self.made())
        self.assertEqual((program.variables, program.block), ((("x", 4), ("y", 2)), self.BLOCK))

    def test_reading_makes_new_programs(self):
        one, two = read_program(VARS), read_program(VARS)
        self.assertIsNot(one, two)
        self.assertTrue(one == two)

    def test_the_error(self):
        with self.assertRaises(BadText) as caught:
            read_program("rows 1 columns 1 end")
        self.assertEqual(caught.exception.at, 4)
