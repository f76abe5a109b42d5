"""What talks give away: points 1, 10, 11 and 12 and the interface's splittalk/away.py."""

import random
import unittest
from fractions import Fraction

from examples import by, deep, ends, outline, ratio, say, some_tables, some_talk, surely
from splittalk.away import gaps, open_at
from splittalk.parts import is_barred
from splittalk.ratio import Ratio
from splittalk.table import Table, whole
from splittalk.talk import End, Say, chances

AND = Table([[0, 0], [0, 1]])
SAME = Table([[5, 5, 5]])


def told(table, talk):
    """The gaps, with texts for fractions."""
    return [(*found[:4], str(found[4])) for found in gaps(table, talk)]


def exact(talk, row, column):
    return [(way, Fraction(chance.num, chance.den)) for way, chance in chances(talk, row, column)]


def sides(table):
    """For each person and value, the cells that this person takes to be possible."""
    rows, columns = whole(table)
    for row in rows:
        yield 1, row, [(row, column) for column in columns]
    for column in columns:
        yield 2, column, [(row, column) for row in rows]


def open_by_hand(table, talk):
    """The first open triple, straight from point 10."""
    for person, value, cells in sides(table):
        for k, (way, _) in enumerate(chances(talk, 0, 0)):
            beside = [table.rows[r][c] for r, c in cells if exact(talk, r, c)[k][1] > 0]
            if any(result != beside[0] for result in beside):
                return person, value, way
    return None


def gaps_by_hand(table, talk):
    """All gaps, straight from point 11, and both ways around."""
    found = []
    for person, value, cells in sides(table):
        for one in range(len(cells)):
            for other in range(one + 1, len(cells)):
                (r, c), (s, d) = cells[one], cells[other]
                if table.rows[r][c] != table.rows[s][d]:
                    continue
                pairs = list(zip(exact(talk, r, c), exact(talk, s, d)))
                gap = sum(max(a - b, 0) for (_, a), (_, b) in pairs)
                assert gap == sum(max(b - a, 0) for (_, a), (_, b) in pairs)
                if gap != 0:
                    found.append((person, value, one, other, gap))
    return found


def made_right(table, talk):
    """The talk, with both saying their values behind each of its ends."""
    if isinstance(talk, End):
        rows, columns = whole(table)
        return surely(1, rows, [by(2, columns) for _ in rows])
    return Say(talk.person, talk.lots, [made_right(table, part) for part in talk.parts])


class Open(unittest.TestCase):

    def check(self, rows, talk, expected):
        self.assertEqual(open_at(Table(rows), talk), expected)

    def test_right_and_private(self):
        self.check([[3, 3], [3, 3]], End(), None)
        self.check([[0, 0], [2, 1]], surely(1, [0, 1], [End(), by(2, [0, 1])]), None)
        self.check([[0, 1], [0, 2]], surely(2, [0, 1], [End(), by(1, [0, 1])]), None)

    def test_right_and_not_private(self):
        self.check([[0, 0], [0, 1]], surely(1, [0, 1], [by(2, [0, 1]), by(2, [0, 1])]), None)
        self.check([[0, 0], [0, 1]], surely(1, [0, 1], [End(), by(2, [0, 1])]), None)
        self.check([[5, 5, 5]], by(2, [0, 1, 1]), None)

    def test_open_for_person_1(self):
        # Person 2 learns the row and with it the result.
        self.check([[0, 1], [2, 3]], by(1, [0, 1]), (1, 0, (0,)))
        self.check([[0, 1]], End(), (1, 0, ()))

    def test_open_for_person_2(self):
        self.check([[0, 1], [2, 3]], by(2, [0, 1]), (2, 0, (0,)))
        self.check([[0], [1]], End(), (2, 0, ()))

    def test_open_for_both(self):
        self.check([[0, 1], [2, 3]], End(), (1, 0, ()))
        self.check([[0, 1, 2], [3, 4, 5]], by(2, [0, 0, 1]), (1, 0, (0,)))

    def test_not_the_first_value(self):
        self.check([[0, 0], [1, 1], [2, 3]], by(1, [0, 1, 2]), (1, 2, (2,)))
        self.check([[0, 0], [1, 2]], End(), (1, 1, ()))
        self.check([[0, 1, 2], [0, 1, 3]], by(2, [0, 1, 2]), (2, 2, (2,)))
        self.check([[0, 1], [0, 2]], by(2, [0, 1]), (2, 1, (1,)))

    def test_not_the_first_way(self):
        self.check([[0, 1, 2]], by(2, [0, 1, 1]), (1, 0, (1,)))
        talk = surely(2, [0, 1, 2], [End(), by(2, [0, 0, 0]), End()])
        self.check([[0, 1, 2]], talk, None)
        talk = surely(2, [0, 1, 1, 1], [End(), surely(2, [0, 0, 1, 1], ends(2))])
        self.check([[0, 1, 2, 3]], talk, (1, 0, (1, 1)))
        self.check([[0, 1], [2, 1], [3, 1]], surely(2, [0, 1], [by(1, [0, 1, 1]), End()]), (2, 0, (0, 1)))

    def test_a_smaller_value_is_ahead_of_an_earlier_way(self):
        rows = [[0, 1], [0, 1]]
        self.check(rows, surely(1, [1, 0], ends(2)), (1, 0, (1,)))
        self.check([[0, 0], [1, 1]], surely(2, [1, 0], ends(2)), (2, 0, (1,)))

    def test_person_1_is_ahead_of_a_smaller_value(self):
        # Person 2 is open at the value 0, person 1 at the value 1 only.
        self.check([[0, 0], [1, 2]], End(), (1, 1, ()))

    def test_an_end_that_some_values_do_not_come_to(self):
        rows = [[0, 1, 1], [2, 2, 2]]
        talk = surely(1, [0, 1], [say(2, ["1 0", "0 1", "0 1"], ends(2)), End()])
        self.check(rows, talk, None)
        talk = surely(1, [0, 1], [say(2, ["1 0", "1/100 99/100", "0 1"], ends(2)), End()])
        self.check(rows, talk, (1, 0, (0, 0)))
        talk = surely(1, [0, 1], [say(2, ["99/100 1/100", "0 1", "0 1"], ends(2)), End()])
        self.check(rows, talk, (1, 0, (0, 1)))

    def test_an_end_that_no_value_comes_to(self):
        self.check([[0, 1]], say(2, ["1 0 0", "0 0 1"], ends(3)), None)
        self.check([[0, 1]], say(2, ["0 0 1", "0 0 1"], ends(3)), (1, 0, (2,)))

    def test_small_chances_count(self):
        table = Table([[0, 1]])
        talk = say(2, ["1 0", "1/3 2/3"], ends(2))
        for _ in range(150):
            talk = say(2, ["1 0", "1/3 2/3"], [talk, End()])
        self.assertEqual(open_at(table, talk), (1, 0, (0,) * 151))

    def test_kinds_of_answers(self):
        found = open_at(Table([[0, 1], [2, 3]]), by(2, [0, 1]))
        self.assertEqual([type(found), type(found[2])], [tuple, tuple])
        self.assertIsNone(open_at(Table([[4]]), End()))

    def test_long_ways(self):
        table = Table([[0, 0], [0, 0]])
        self.assertIsNone(open_at(table, deep(200, table)))
        self.assertEqual(open_at(AND, deep(200, AND)), (1, 1, (0,)))


class Gaps(unittest.TestCase):

    def check(self, rows, talk, expected):
        self.assertEqual(told(Table(rows), talk), expected)

    def test_private(self):
        self.check([[5, 5], [5, 5]], End(), [])
        self.check([[0, 0], [2, 1]], surely(1, [0, 1], [End(), by(2, [0, 1])]), [])
        self.check([[0, 1], [0, 2]], surely(2, [0, 1], [End(), by(1, [0, 1])]), [])
        # Lots that do not hang on the value tell nothing.
        self.check([[5, 5, 5]], say(2, ["1/3 2/3"] * 3, ends(2)), [])

    def test_right_and_not_private(self):
        talk = surely(1, [0, 1], [by(2, [0, 1]), by(2, [0, 1])])
        self.check([[0, 0], [0, 1]], talk, [(1, 0, 0, 1, "1"), (2, 0, 0, 1, "1")])
        talk = surely(1, [0, 1], [End(), by(2, [0, 1])])
        self.check([[0, 0], [0, 1]], talk, [(2, 0, 0, 1, "1")])
        talk = surely(2, [0, 1], [End(), by(1, [0, 1])])
        self.check([[0, 0], [0, 1]], talk, [(1, 0, 0, 1, "1")])

    def test_not_right(self):
        self.check([[0, 1], [2, 3]], End(), [])
        self.check([[0, 1], [2, 1]], by(1, [0, 1]), [(2, 1, 0, 1, "1")])

    def test_other_results_make_no_gap(self):
        self.check([[0, 1, 0]], by(2, [0, 1, 0]), [])
        self.check([[0, 1, 0]], by(2, [0, 1, 1]), [(1, 0, 0, 2, "1")])

    def test_pairs_in_both_orders(self):
        self.check([[5, 5]], say(2, ["1/4 3/4", "2/3 1/3"], ends(2)), [(1, 0, 0, 1, "5/12")])
        self.check([[5, 5]], say(2, ["2/3 1/3", "1/4 3/4"], ends(2)), [(1, 0, 0, 1, "5/12")])
        self.check([[5], [5]], say(1, ["0 1", "1/5 4/5"], ends(2)), [(2, 0, 0, 1, "1/5")])
        self.check([[5], [5]], say(1, ["1/5 4/5", "0 1"], ends(2)), [(2, 0, 0, 1, "1/5")])

    def test_three_values_with_the_same_result(self):
        self.check(
            [[5, 5, 5]], say(2, ["1/2 1/2", "1/3 2/3", "3/4 1/4"], ends(2)),
            [(1, 0, 0, 1, "1/6"), (1, 0, 0, 2, "1/4"), (1, 0, 1, 2, "5/12")],
        )
        self.check(
            [[5, 5, 5]], say(2, ["1/2 1/4 1/4", "1/4 1/2 1/4", "1/6 1/6 2/3"], ends(3)),
            [(1, 0, 0, 1, "1/4"), (1, 0, 0, 2, "5/12"), (1, 0, 1, 2, "5/12")],
        )
        self.check(
            [[5], [5], [5]], say(1, ["1/7 6/7", "2/7 5/7", "1/7 6/7"], ends(2)),
            [(2, 0, 0, 1, "1/7"), (2, 0, 1, 2, "1/7")],
        )

    def test_some_values_with_the_same_result(self):
        self.check(
            [[5, 6, 5, 6]], by(2, [0, 1, 2, 3]), [(1, 0, 0, 2, "1"), (1, 0, 1, 3, "1")],
        )

    def test_own_lots(self):
        # What person 1 draws shares the gap among more ends.
        talk = say(1, ["1/3 2/3", "1/2 1/2"], [say(2, ["1 0", "3/5 2/5"], ends(2)), End()])
        self.check([[5, 5], [5, 5]], talk, [
            (1, 0, 0, 1, "2/15"), (1, 1, 0, 1, "1/5"), (2, 0, 0, 1, "1/6"), (2, 1, 0, 1, "1/6"),
        ])

    def test_order(self):
        talk = surely(1, [0, 1, 2], [by(2, [0, 1, 2])] * 3)
        pairs = [(0, 1), (0, 2), (1, 2)]
        self.check([[5] * 3] * 3, talk, [
            (person, value, one, other, "1")
            for person in (1, 2) for value in range(3) for one, other in pairs
        ])

    def test_fractions_are_ratios_in_lowest_terms(self):
        self.assertEqual(gaps(SAME, say(2, ["1/3 2/3", "2/6 4/6", "3/9 6/9"], ends(2))), [])
        (found,) = gaps(Table([[5, 5]]), say(2, ["1/6 5/6", "3/6 3/6"], ends(2)))
        self.assertIs(type(found), tuple)
        self.assertIsInstance(found[4], Ratio)
        self.assertEqual((found[4].num, found[4].den), (1, 3))

    def test_gaps_that_are_small(self):
        small = ratio("1/1000000000000000000000000000000")
        talk = Say(2, [[small, Ratio(1) - small], [Ratio(0), Ratio(1)]], ends(2))
        (found,) = gaps(Table([[5, 5]]), talk)
        self.assertTrue(found[4] == small)

    def test_an_end_with_the_chance_0(self):
        self.check([[5, 5]], say(2, ["1 0 0", "1 0 0"], ends(3)), [])
        self.check([[5, 5]], say(2, ["1 0 0", "1/2 0 1/2"], ends(3)), [(1, 0, 0, 1, "1/2")])

    def test_kinds_of_answers(self):
        self.assertEqual(gaps(Table([[4]]), End()), [])
        found = gaps(SAME, by(2, [0, 1, 1]))
        self.assertIs(type(found), list)
        found.clear()
        self.assertEqual(len(gaps(SAME, by(2, [0, 1, 1]))), 2)

    def test_long_ways(self):
        table = Table([[0] * 8 for _ in range(8)])
        self.assertEqual(gaps(table, deep(149, table)), [])
        self.assertIsNone(open_at(table, deep(149, table)))
        talk = by(2, [0, 1])
        for _ in range(199):
            talk = say(1, ["1/2 1/2"], [End(), talk])
        (found,) = gaps(Table([[5, 5]]), talk)
        self.assertEqual(found[:4], (1, 0, 0, 1))
        self.assertTrue(found[4] == Ratio(1, 2 ** 199))

    def test_many_messages(self):
        # Each value takes one message more often than the others by 1/100.
        rows = [[Ratio(2 if k == value else 1, 100) for k in range(99)] for value in range(8)]
        found = told(Table([[5] * 8] * 8), Say(1, rows, ends(99)))
        self.assertEqual(found, [
            (2, value, one, other, "1/100")
            for value in range(8) for one in range(8) for other in range(one + 1, 8)
        ])

    def test_long_ways_with_long_fractions(self):
        table = Table([[5] * 8] * 8)
        large = 10 ** 59 + 7
        talk = End()
        for k in range(60):
            rows = [[Ratio(large - k - value, 2 * large), Ratio(large + k + value, 2 * large)] for value in range(8)]
            talk = Say(1 + k % 2, rows, [End(), talk])
        self.assertIsNone(open_at(table, talk))
        found = gaps(table, talk)
        self.assertEqual(len(found), 2 * 8 * 28)
        exactly = [chance for _, chance in exact(talk, 3, 4)]
        others = [chance for _, chance in exact(talk, 3, 6)]
        gap = sum(max(a - b, 0) for a, b in zip(exactly, others))
        self.assertEqual([one[4].num for one in found if one[:4] == (1, 3, 4, 6)], [gap.numerator])


class Both(unittest.TestCase):

    def test_against_the_points(self):
        chance = random.Random(21)
        seen = {"open": 0, "right": 0, "gaps": 0, "private": 0}
        for table in some_tables(120, most=3, results=2, seed=22):
            for talk in (some_talk(chance, table), made_right(table, some_talk(chance, table, 2))):
                before = (table.rows, outline(talk))
                expected = open_by_hand(table, talk)
                self.assertEqual(open_at(table, talk), expected)
                found = [(*one[:4], Fraction(one[4].num, one[4].den)) for one in gaps(table, talk)]
                self.assertEqual(found, gaps_by_hand(table, talk))
                self.assertEqual((table.rows, outline(talk)), before)
                seen["right" if expected is None else "open"] += 1
                seen["gaps" if found else "private"] += 1
        self.assertTrue(min(seen.values()) > 10, seen)

    def test_barred_parts_leave_no_talk_that_is_right_and_private(self):
        chance = random.Random(31)
        many = 0
        for table in some_tables(200, most=3, results=2, seed=32):
            if is_barred(table, whole(table)):
                for _ in range(3):
                    talk = made_right(table, some_talk(chance, table, 2))
                    self.assertIsNone(open_at(table, talk))
                    self.assertNotEqual(gaps(table, talk), [])
                    many += 1
        self.assertGreater(many, 30)
