"""Talks and tables: points 8 and 9 and the functions of splittalk/talk.py."""

import random
import unittest
from fractions import Fraction

from examples import by, deep, ends, outline, say, some_tables, some_talk, surely
from splittalk.ratio import Ratio
from splittalk.table import Table
from splittalk.talk import End, Say, chances, fits, longest


def plain(told):
    return [(way, str(chance)) for way, chance in told]


def chances_by_hand(node, row, column, way=(), chance=Fraction(1)):
    """The ways and chances of all ends, worked out by recursion with Python's own fractions."""
    if isinstance(node, End):
        return [(way, chance)]
    value = {1: row, 2: column}[node.person]
    found = []
    for k, part in enumerate(node.parts):
        lot = Fraction(node.lots[value][k].num, node.lots[value][k].den)
        found.extend(chances_by_hand(part, row, column, way + (k,), chance * lot))
    return found


class Fits(unittest.TestCase):

    # Three rows and two columns.
    TABLE = Table([[0, 1], [2, 3], [4, 5]])

    def check(self, talk, expected):
        self.assertIs(fits(self.TABLE, talk), expected)

    def test_end(self):
        self.check(End(), True)

    def test_person_1_alone(self):
        self.check(by(1, [0, 0]), False)
        self.check(by(1, [0, 0, 1]), True)
        self.check(by(1, [0, 0, 1, 1]), False)
        self.check(by(1, [0]), False)

    def test_person_2_alone(self):
        self.check(by(2, [0]), False)
        self.check(by(2, [0, 1]), True)
        self.check(by(2, [0, 1, 1]), False)

    def test_both(self):
        self.check(surely(1, [0, 1, 1], [End(), by(2, [0, 1])]), True)
        self.check(surely(2, [0, 1], [by(1, [0, 1, 2]), End()]), True)
        self.check(surely(2, [0, 1], [by(1, [0, 1, 2]), by(1, [0, 0, 1])]), True)

    def test_below_the_first_node(self):
        for said in ([0], [0, 1, 1], [0, 0, 1, 1]):
            self.check(surely(1, [0, 1, 1], [End(), by(2, said)]), False)
            self.check(surely(1, [0, 1, 1], [by(2, said), End()]), False)
            self.check(surely(1, [0, 1, 1], [by(2, [0, 1]), by(2, said)]), False)
        for said in ([0], [0, 1], [0, 0, 1, 1]):
            self.check(surely(1, [0, 1, 1], [End(), by(1, said)]), False)
            self.check(surely(2, [0, 1], [by(1, said), End()]), False)
            self.check(surely(2, [0, 1], [surely(1, [0, 0, 0], [by(1, said)]), End()]), False)

    def test_first_node_alone_is_wrong(self):
        self.check(surely(1, [0, 1], [End(), by(2, [0, 1])]), False)
        self.check(surely(2, [0, 1, 1], [by(1, [0, 1, 2]), End()]), False)

    def test_where_the_chance_is_0(self):
        self.check(surely(1, [0, 0, 0], [End(), by(2, [0, 1, 1])]), False)

    def test_each_size(self):
        for rows in range(1, 9):
            for columns in range(1, 9):
                table = Table([[0] * columns] * rows)
                for many in range(1, 10):
                    self.assertIs(fits(table, by(1, [0] * many)), many == rows)
                    self.assertIs(fits(table, by(2, [0] * many)), many == columns)

    def test_far_below(self):
        for table in (self.TABLE, Table([[0, 1, 2], [2, 3, 4]])):
            self.assertIs(fits(self.TABLE, deep(200, table)), table == self.TABLE)
        talk = by(2, [0, 1, 1])
        for _ in range(199):
            talk = say(1, ["1/2 1/2"] * 3, [End(), talk])
        self.check(talk, False)


class Longest(unittest.TestCase):

    def test_end(self):
        self.assertEqual(longest(End()), 0)

    def test_one_message(self):
        self.assertEqual(longest(by(1, [0])), 1)
        self.assertEqual(longest(by(2, [0, 1, 2])), 1)

    def test_branches_of_unlike_lengths(self):
        one, two = by(1, [0, 1]), surely(2, [0, 1], [End(), by(1, [0, 1])])
        three = surely(1, [0, 0], [two])
        self.assertEqual([longest(two), longest(three)], [2, 3])
        for parts in ([End(), one, three], [three, End(), one], [one, three, two]):
            self.assertEqual(longest(surely(1, [0, 1, 2], parts)), 4)
        self.assertEqual(longest(surely(1, [0, 1], [End(), one])), 2)
        self.assertEqual(longest(surely(2, [0, 1], [two, one])), 3)

    def test_ways_with_the_chance_0_count(self):
        self.assertEqual(longest(surely(1, [0, 0], [End(), by(2, [0, 1])])), 2)

    def test_long_ways(self):
        table = Table([[0]])
        for many in (99, 199, 200, 250):
            self.assertEqual(longest(deep(many, table)), many)

    def test_many_messages(self):
        self.assertEqual(longest(by(1, range(99))), 1)


class Chances(unittest.TestCase):

    def test_end(self):
        told = chances(End(), 0, 0)
        self.assertEqual(plain(told), [((), "1")])
        self.assertIsInstance(told[0][1], Ratio)
        self.assertEqual(plain(chances(End(), 7, 7)), [((), "1")])

    def test_surely(self):
        talk = surely(1, [0, 1], [End(), by(2, [1, 0, 2])])
        for row, column, expected in (
            (0, 0, ["1", "0", "0", "0"]), (0, 2, ["1", "0", "0", "0"]),
            (1, 0, ["0", "0", "1", "0"]), (1, 1, ["0", "1", "0", "0"]), (1, 2, ["0", "0", "0", "1"]),
        ):
            told = chances(talk, row, column)
            self.assertEqual([way for way, _ in told], [(0,), (1, 0), (1, 1), (1, 2)])
            self.assertEqual([str(chance) for _, chance in told], expected)

    def test_fractions(self):
        talk = say(1, ["1/2 1/2", "1/3 2/3"], [
            say(2, ["3/4 1/4", "0 1", "2/5 3/5"], ends(2)),
            say(1, ["1", "1"], [say(2, ["1/7 6/7", "1 0", "1/2 1/2"], ends(2))]),
        ])
        for row, column, expected in (
            (0, 0, ["3/8", "1/8", "1/14", "3/7"]), (0, 1, ["0", "1/2", "1/2", "0"]),
            (0, 2, ["1/5", "3/10", "1/4", "1/4"]), (1, 0, ["1/4", "1/12", "2/21", "4/7"]),
            (1, 1, ["0", "1/3", "2/3", "0"]), (1, 2, ["2/15", "1/5", "1/3", "1/3"]),
        ):
            self.assertEqual(
                plain(chances(talk, row, column)),
                list(zip([(0, 0), (0, 1), (1, 0, 0), (1, 0, 1)], expected)),
            )

    def test_person_1_by_the_row_and_person_2_by_the_column(self):
        self.assertEqual(plain(chances(by(1, [0, 1]), 0, 1)), [((0,), "1"), ((1,), "0")])
        self.assertEqual(plain(chances(by(2, [0, 1]), 0, 1)), [((0,), "0"), ((1,), "1")])

    def test_order_of_ways(self):
        talk = surely(2, [0], [
            by(1, [0, 1, 2]), End(), surely(1, [0], [End(), by(2, [0, 1]), End()]), End(),
        ])
        self.assertEqual([way for way, _ in chances(talk, 0, 0)], [
            (0, 0), (0, 1), (0, 2), (1,), (2, 0), (2, 1, 0), (2, 1, 1), (2, 2), (3,),
        ])

    def test_more_than_ten_messages(self):
        told = chances(by(1, range(99)), 42, 0)
        self.assertEqual([way for way, _ in told], [(k,) for k in range(99)])
        self.assertEqual([k for k in range(99) if told[k][1] == Ratio(1)], [42])

    def test_kinds_of_answers(self):
        told = chances(by(2, [0, 1]), 0, 0)
        self.assertIs(type(told), list)
        for pair in told:
            self.assertEqual([type(pair), type(pair[0])], [tuple, tuple])
            self.assertIsInstance(pair[1], Ratio)
            self.assertEqual(len(pair), 2)

    def test_lowest_terms(self):
        told = chances(say(1, ["2/3 1/3"], [say(2, ["3/4 1/4"], ends(2)), End()]), 0, 0)
        self.assertEqual([(chance.num, chance.den) for _, chance in told], [(1, 2), (1, 6), (1, 3)])
        zero = chances(say(1, ["0 1"], [say(2, ["3/4 1/4"], ends(2)), End()]), 0, 0)
        self.assertEqual([(chance.num, chance.den) for _, chance in zero], [(0, 1), (0, 1), (1, 1)])

    def test_against_recursion(self):
        chance = random.Random(11)
        for table in some_tables(60, seed=12):
            talk = some_talk(chance, table)
            before = outline(talk)
            for row in range(len(table.rows)):
                for column in range(len(table.rows[0])):
                    told = [
                        (way, Fraction(found.num, found.den))
                        for way, found in chances(talk, row, column)
                    ]
                    self.assertEqual(told, chances_by_hand(talk, row, column))
                    self.assertEqual(sum(found for _, found in told), 1)
            self.assertEqual(outline(talk), before)

    def test_long_ways(self):
        told = chances(deep(200, Table([[0]])), 0, 0)
        self.assertEqual(len(told), 201)
        self.assertEqual([len(way) for way, _ in told], [*range(1, 201), 200])
        self.assertEqual(told[-1][0], (1,) * 200)
        for k in range(200):
            self.assertTrue(told[k][1] == Ratio(2 ** k, 3 ** (k + 1)))

    def test_answers_are_new(self):
        talk = by(1, [0, 1])
        chances(talk, 0, 0).clear()
        self.assertEqual(plain(chances(talk, 0, 0)), [((0,), "1"), ((1,), "0")])
        self.assertTrue(talk == Say(1, talk.lots, ends(2)))
