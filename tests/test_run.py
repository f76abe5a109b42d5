"""Programs run to talks: points 4, 17 and 18 and splittalk/run.py."""

import random
import unittest
from fractions import Fraction

from examples import by, ends, outline, say, some_program_words, surely
from splittalk.errors import TalkError, TooLarge
from splittalk.program import Program, program_text, read_program
from splittalk.run import talk_of
from splittalk.table import Table
from splittalk.talk import End, Say, fits, longest

OWN = ("own",)


def value_by_hand(expression, values):
    """The value of an expression, straight from point 4."""
    word, *parts = expression
    if word == "number":
        return parts[0]
    if word == "variable":
        return values[parts[0]]
    if not parts:
        return values[word]
    one, other = [value_by_hand(part, values) for part in parts]
    return {
        "+": lambda: (one + other) % 65536, "*": lambda: (one * other) % 65536,
        "-": lambda: one - other if one > other else 0, "/": lambda: one // other if other else 0,
        "mod": lambda: one % other if other else 0, "<": lambda: int(one < other),
        "=": lambda: int(one == other),
    }[word]()


def outline_by_hand(program):
    """The outline of the talk of a program, straight from point 18."""
    sizes = dict(program.variables)

    def run(statements, values):
        if not statements:
            return "end"
        (word, *parts), *behind = statements
        if word == "set":
            name, value = parts
            told = value_by_hand(value, values) % sizes[name]
            return run(behind, {**values, name: told})
        if word == "if":
            test, then, otherwise = parts
            return run([*(then if value_by_hand(test, values) else otherwise), *behind], values)
        person, name, many, lots, value = parts
        told = []
        for own in range(program.rows if person == 1 else program.columns):
            row = [Fraction(0)] * many
            for lot in range(lots):
                row[value_by_hand(value, {**values, "own": own, "lot": lot}) % many] += Fraction(1, lots)
            told.append([(chance.numerator, chance.denominator) for chance in row])
        return person, told, [run(behind, {**values, name: k % sizes[name]}) for k in range(many)]

    return run(program.block, {name: 0 for name in sizes})


def nodes_of_outline(told):
    return 1 if told == "end" else 1 + sum(nodes_of_outline(part) for part in told[2])


def talk(text):
    """The talk of a program text behind the head of a table of 3 rows and 2 columns."""
    return talk_of(read_program(f"rows 3 columns 2 var x 4 var y 3 {text}"))


class Talks(unittest.TestCase):

    def check(self, text, expected):
        self.assertEqual(outline(talk(text)), outline(expected), text)
        self.assertTrue(talk(text) == expected)

    def same(self, text, other):
        self.check(text, talk(other))

    def test_no_messages(self):
        for text in ("rows 1 columns 1", "rows 8 columns 8 var x 3", "rows 2 columns 2 if 1 end"):
            self.assertTrue(talk_of(read_program(text)) == End())
        self.check("set x 3 set y + x 9", End())
        self.check("if x first x 2 1 own end", End())
        self.check("if 1 else first x 2 1 own end", End())
        self.assertTrue(talk_of(Program(1, 1, [], [])) == End())

    def test_one_message(self):
        self.check("first x 3 1 own", by(1, [0, 1, 2]))
        self.check("second x 2 1 own", by(2, [0, 1]))
        self.check("first x 1 1 own", by(1, [0, 0, 0]))
        self.check("second x 1 1 7", by(2, [0, 0]))

    def test_the_persons_have_their_values(self):
        for rows in range(1, 9):
            for columns in range(1, 9):
                text = f"rows {rows} columns {columns} var x 4 first x 4 1 own second x 2 1 own"
                told = talk_of(read_program(text))
                self.assertEqual((told.person, len(told.lots), len(told.parts)), (1, rows, 4))
                for part in told.parts:
                    self.assertEqual((part.person, len(part.lots)), (2, columns))
                self.assertTrue(fits(Table([[0] * columns] * rows), told))

    def test_modulo_the_number_of_messages(self):
        self.check("first x 2 1 own", surely(1, [0, 1, 0], ends(2)))
        self.check("first x 3 1 + own 5", surely(1, [2, 0, 1], ends(3)))
        self.check("first x 4 1 65535", surely(1, [3, 3, 3], ends(4)))
        self.check("first x 4 1 + own 65535", surely(1, [3, 0, 1], ends(4)))
        self.check("second x 3 1 * own 5", surely(2, [0, 2], ends(3)))
        self.check("first x 3 1 - own 1", surely(1, [0, 0, 1], ends(3)))

    def test_the_variable_is_the_message_modulo_its_size(self):
        # The size of x is 4, that of y is 3.
        for many in (1, 2, 3, 4):
            for name, size in (("x", 4), ("y", 3)):
                parts = [surely(2, [k % size] * 2, ends(4)) for k in range(many)]
                self.check(f"first {name} {many} 1 own second {name} 4 1 {name}",
                           surely(1, [own % many for own in range(3)], parts))
        one = read_program("rows 3 columns 1 var z 1 first z 3 1 own first z 2 1 + z 1")
        self.assertTrue(talk_of(one) == surely(1, [0, 1, 2], [by(1, [1, 1, 1])] * 3))
        two = read_program("rows 3 columns 1 var z 2 first z 3 1 own if z first z 2 1 own end")
        inner = surely(1, [0, 1, 0], ends(2))
        self.assertTrue(talk_of(two) == surely(1, [0, 1, 2], [End(), inner, End()]))

    def test_the_message_is_not_the_variable(self):
        # Size 3: the message 3 makes y 0, but it has a node of its own.
        self.check("first y 4 1 3 first x 2 1 y", surely(1, [3, 3, 3], [
            surely(1, [k % 2] * 3, ends(2)) for k in (0, 1, 2, 0)
        ]))

    def test_variables_are_0_at_first(self):
        self.check("first x 4 1 x", surely(1, [0, 0, 0], ends(4)))
        self.check("if = x 0 first x 2 1 own end", surely(1, [0, 1, 0], ends(2)))
        self.check("if x first x 2 1 own end", End())

    def test_set_ahead_of_a_message(self):
        self.check("set x 3 first y 4 1 x", surely(1, [3, 3, 3], ends(4)))
        self.check("set x 2 set x + x 1 second y 4 1 x", surely(2, [3, 3], ends(4)))
        self.check("set x 1 set y x set x 0 second x 2 1 y", surely(2, [1, 1], ends(2)))

    def test_set_takes_values_modulo_the_size(self):
        for value in (3, 4, 5, 7, 65535):
            self.check(f"set x {value} first y 4 1 x", surely(1, [value % 4] * 3, ends(4)))
            self.check(f"set y {value} first x 4 1 y", surely(1, [value % 3] * 3, ends(4)))
        # 5 - 3 modulo 4 is 2, but 5 modulo 4 less 3 is 0.
        self.check("set x - 5 3 first y 4 1 x", surely(1, [2] * 3, ends(4)))
        self.check("set x 5 set x - x 3 first y 4 1 x", surely(1, [0] * 3, ends(4)))
        # + is taken modulo 65536 first, and then modulo the size.
        self.check("set y + 65535 2 first x 4 1 y", surely(1, [1] * 3, ends(4)))
        one = read_program("rows 1 columns 1 var z 1 set z 5 if z first z 2 1 0 end")
        self.assertTrue(talk_of(one) == End())
        large = read_program("rows 1 columns 1 var z 65535 set z 65535 first z 2 1 = z 0")
        self.assertTrue(talk_of(large) == surely(1, [1], ends(2)))
        large = read_program("rows 1 columns 1 var z 65535 set z 65534 first z 2 1 = z 65534")
        self.assertTrue(talk_of(large) == surely(1, [1], ends(2)))

    def test_set_between_messages(self):
        self.check("first x 2 1 own set x + x 1 second y 3 1 x",
                   surely(1, [0, 1, 0], [surely(2, [1, 1], ends(3)), surely(2, [2, 2], ends(3))]))
        self.check("first x 2 1 own set x 3 set y x second x 3 1 y",
                   surely(1, [0, 1, 0], [surely(2, [0, 0], ends(3))] * 2))

    def test_set_behind_messages(self):
        self.same("first x 3 1 own set x 1 set y x", "first x 3 1 own")
        self.check("first x 3 1 own set x 1 if x set y 2 else set y 1 end", by(1, [0, 1, 2]))

    def test_what_is_told_in_one_branch_stays_there(self):
        self.check("first x 2 1 own if x set y 2 end second x 3 1 y",
                   surely(1, [0, 1, 0], [surely(2, [0, 0], ends(3)), by(2, [2, 2])]))
        self.check("first x 2 1 own if x else set y 2 end second x 3 1 y",
                   surely(1, [0, 1, 0], [by(2, [2, 2]), surely(2, [0, 0], ends(3))]))

    def test_a_name_that_is_set_by_the_message_itself(self):
        self.check("set x 2 first x 4 1 + own x second y 4 1 x", surely(
            1, [2, 3, 0], [surely(2, [k, k], ends(4)) for k in range(4)],
        ))

    def test_lots(self):
        self.check("first x 2 2 lot", say(1, ["1/2 1/2"] * 3, ends(2)))
        self.check("second x 3 3 lot", say(2, ["1/3 1/3 1/3"] * 2, ends(3)))
        self.check("second x 2 3 lot", say(2, ["2/3 1/3"] * 2, ends(2)))
        self.check("first x 4 8 lot", say(1, ["1/4 1/4 1/4 1/4"] * 3, ends(4)))
        self.check("first x 4 3 lot", say(1, ["1/3 1/3 1/3 0"] * 3, ends(4)))
        self.check("first x 3 8 lot", say(1, ["3/8 3/8 1/4"] * 3, ends(3)))

    def test_own_and_lot(self):
        self.check("first x 2 4 < lot own", say(1, ["1 0", "3/4 1/4", "1/2 1/2"], ends(2)))
        self.check("first x 3 2 + own lot",
                   say(1, ["1/2 1/2 0", "0 1/2 1/2", "1/2 0 1/2"], ends(3)))
        self.check("second x 2 8 < lot * own 3", say(2, ["1 0", "5/8 3/8"], ends(2)))
        self.check("second x 4 6 * own lot", say(2, ["1 0 0 0", "1/3 1/3 1/6 1/6"], ends(4)))
        self.check("set x 1 first y 2 4 < lot + own x",
                   say(1, ["3/4 1/4", "1/2 1/2", "1/4 3/4"], ends(2)))

    def test_lots_that_lead_to_the_same_message(self):
        self.same("first x 2 8 own", "first x 2 1 own")
        self.same("second x 3 6 lot", "second x 3 3 lot")
        self.check("first x 2 6 / lot 4", say(1, ["2/3 1/3"] * 3, ends(2)))
        self.check("first x 2 8 = lot 8", say(1, ["1 0"] * 3, ends(2)))

    def test_messages_with_the_chance_0(self):
        told = talk("first x 4 1 0 if = x 3 second y 2 1 own end")
        self.assertTrue(told == surely(1, [0, 0, 0], [End(), End(), End(), by(2, [0, 1])]))
        self.assertEqual(longest(told), 2)
        self.check("second x 3 1 1", surely(2, [1, 1], ends(3)))

    def test_lots_are_fractions_in_lowest_terms(self):
        told = talk("first x 2 8 < lot 6")
        self.assertEqual([(lot.num, lot.den) for lot in told.lots[0]], [(1, 4), (3, 4)])
        told = talk("first x 2 8 1")
        self.assertEqual([(lot.num, lot.den) for lot in told.lots[0]], [(0, 1), (1, 1)])

    def test_if_on_a_message(self):
        self.check("first x 3 1 own if = x 1 second y 2 1 own end",
                   surely(1, [0, 1, 2], [End(), by(2, [0, 1]), End()]))
        self.check("first x 3 1 own if x second y 2 1 own else first y 2 1 own end",
                   surely(1, [0, 1, 2], [surely(1, [0, 1, 0], ends(2)), by(2, [0, 1]), by(2, [0, 1])]))
        self.check("first x 3 1 own if x else second y 2 1 own end",
                   surely(1, [0, 1, 2], [by(2, [0, 1]), End(), End()]))

    def test_if_takes_each_value_but_0(self):
        for value in ("1", "2", "65535", "= x 0", "- 5 4"):
            self.check(f"if {value} second x 2 1 own end", by(2, [0, 1]))
            self.check(f"if {value} else second x 2 1 own end", End())
        for value in ("0", "x", "< 1 1", "- 4 5", "+ 65535 1", "/ 1 0"):
            self.check(f"if {value} second x 2 1 own end", End())
            self.check(f"if {value} else second x 2 1 own end", by(2, [0, 1]))

    def test_messages_in_one_branch_only(self):
        self.check(
            "first x 2 1 own if x second y 2 1 own set y + y 1 first x 3 1 y end second x 2 1 own",
            surely(1, [0, 1, 0], [by(2, [0, 1]), surely(2, [0, 1], [
                surely(1, [k] * 3, [by(2, [0, 1])] * 3) for k in (1, 2)
            ])]),
        )

    def test_what_is_behind_an_if_follows_in_both_branches(self):
        self.check("first x 2 1 own if x set y 1 else set y 2 end second x 3 1 y",
                   surely(1, [0, 1, 0], [by(2, [2, 2]), surely(2, [1, 1], ends(3))]))
        self.check("if x first y 2 1 own else second y 2 1 own end first x 3 1 own",
                   surely(2, [0, 1], [by(1, [0, 1, 2])] * 2))

    def test_ifs_in_ifs(self):
        text = "if = y 0 if = x 0 {} else {} end else {} end {}".format(
            "second y 2 1 own", "second y 3 1 own", "second y 4 1 own", "first y 1 1 own")
        last = by(1, [0, 0, 0])
        self.check(text, surely(2, [0, 1], [last] * 2))
        self.check(f"set x 1 {text}", surely(2, [0, 1], [last] * 3))
        self.check(f"set y 1 {text}", surely(2, [0, 1], [last] * 4))

    def test_a_test_is_asked_once(self):
        self.check("if = x 0 set x 1 else set x 2 end if = x 2 first y 2 1 own end", End())
        self.check("if = x 0 set x 1 if = x 1 first y 1 1 0 set x 0 end second y 1 1 0 end",
                   surely(1, [0, 0, 0], [by(2, [0, 0])]))

    def test_six_messages(self):
        told = talk(" ".join(["first x 1 1 own", "second x 1 1 own"] * 3))
        for k in range(6):
            self.assertEqual((told.person, len(told.parts)), (1 + k % 2, 1))
            told = told.parts[0]
        self.assertTrue(told == End())

    def test_against_recursion(self):
        chance = random.Random(71)
        large = small = 0
        for _ in range(1200):
            program = read_program(" ".join(some_program_words(chance, most=4)))
            before = repr((program.rows, program.columns, program.variables, program.block))
            told = outline_by_hand(program)
            if nodes_of_outline(told) > 300:
                large += 1
                with self.assertRaises(TooLarge) as caught:
                    talk_of(program)
                self.assertEqual(caught.exception.what, "nodes")
            else:
                small += nodes_of_outline(told) > 20
                self.assertEqual(outline(talk_of(program)), told)
                table = Table([[0] * program.columns] * program.rows)
                self.assertTrue(fits(table, talk_of(program)))
            after = repr((program.rows, program.columns, program.variables, program.block))
            self.assertEqual(before, after)
        self.assertGreater(min(large, small), 5)


class Sizes(unittest.TestCase):

    def says(self, numbers):
        return " ".join(f"first x {many} 1 own" for many in numbers)

    def nodes(self, told):
        return nodes_of_outline(outline(told))

    def too_large(self, program):
        with self.assertRaises(TooLarge) as caught:
            talk_of(program)
        self.assertEqual(caught.exception.what, "nodes")
        self.assertIsInstance(caught.exception, TalkError)

    def test_300_and_301_nodes(self):
        # 1 + 1 + 2 + 8 + 32 + 128 + 128 and 1 + 4 + 8 + 32 + 128 + 128.
        self.assertEqual(self.nodes(talk(self.says([1, 2, 4, 4, 4, 1]))), 300)
        self.too_large(read_program(f"rows 3 columns 2 var x 4 {self.says([4, 2, 4, 4, 1])}"))

    def test_one_node_more_or_less_by_a_branch(self):
        # 1 + 4 + 16 + 64 + 192 nodes, and one more behind each of the first 22, 23 and 24 ends.
        text = "rows 1 columns 1 var x 4 var c 65535"
        for many in (4, 4, 4, 3):
            text = f"{text} first x {many} 1 own set c + * c 4 x"
        for many, nodes in ((22, 299), (23, 300)):
            # The codes of ends are those numbers below 256 whose last digit of base 4 is not 3.
            last = many + (many - 1) // 3
            program = read_program(f"{text} if < c {last} first x 1 1 0 end")
            self.assertEqual(self.nodes(talk_of(program)), nodes)
        self.too_large(read_program(f"{text} if < c 31 first x 1 1 0 end"))

    def test_far_too_many_nodes(self):
        head = "rows 8 columns 8 var x 4"
        self.too_large(read_program(f"{head} {self.says([4] * 6)}"))
        self.too_large(read_program(f"{head} {self.says([4] * 4)}"))
        self.too_large(Program(1, 1, [("x", 4)], [("say", 1, "x", 4, 1, OWN)] * 60))
        self.assertEqual(self.nodes(talk(self.says([4] * 3))), 85)

    def test_many_messages_with_one_way(self):
        for many, large in ((6, False), (299, False), (300, True), (2000, True)):
            program = Program(2, 2, [("x", 4)], [("say", 2, "x", 1, 1, OWN)] * many)
            if large:
                self.too_large(program)
            else:
                self.assertEqual(longest(talk_of(program)), many)

    def test_more_than_300_statements(self):
        sets = "set x + x 1 " * 5000
        self.check_long(f"{sets}first y 4 1 x", 5000 % 4)
        self.check_long(f"if 1 {sets}end {sets}first y 4 1 x", 10000 % 4)

    def check_long(self, text, said):
        self.assertTrue(talk(text) == surely(1, [said] * 3, ends(4)))

    def test_somewhat_beyond_the_limits(self):
        program = Program(9, 1, [("x", 70000)], [("say", 1, "x", 9, 12, ("+", OWN, ("lot",)))])
        told = talk_of(program)
        self.assertEqual((len(told.lots), len(told.parts)), (9, 9))
        self.assertEqual([str(lot) for lot in told.lots[0]], ["1/6"] * 3 + ["1/12"] * 6)


class Arguments(unittest.TestCase):

    def test_the_program_stays(self):
        text = "rows 2 columns 2 var x 2 first x 2 2 + own lot if x set x 0 else second x 1 1 x end"
        program = read_program(text)
        one, two = talk_of(program), talk_of(program)
        self.assertTrue(one == two)
        self.assertIsNot(one, two)
        self.assertTrue(program == read_program(text))
        self.assertEqual(program_text(program), text)

    def test_programs_of_lists(self):
        block = [["say", 1, "x", 2, 1, ["own"]],
                 ["if", ["variable", "x"], [["say", 2, "x", 2, 1, ["own"]]], []]]
        expected = surely(1, [0, 1], [End(), by(2, [0, 1])])
        self.assertTrue(talk_of(Program(2, 2, [["x", 2]], block)) == expected)
        self.assertEqual(block[0], ["say", 1, "x", 2, 1, ["own"]])

    def test_kinds(self):
        told = talk("first x 2 1 own")
        self.assertIs(type(told), Say)
        self.assertIs(type(told.parts), tuple)
        self.assertIs(type(told.lots), tuple)
        self.assertIs(type(told.lots[0]), tuple)
        self.assertIs(type(talk("set x 1")), End)
