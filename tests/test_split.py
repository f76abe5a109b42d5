"""What is found about tables: points 1, 6, 12, 13 and 14 and splittalk/split.py."""

import unittest
from functools import lru_cache

from examples import (
    by, columns_by_ties, deep, ends, outline, ratio, rows_by_ties, say, some_tables, surely,
)
from splittalk.away import gaps, open_at
from splittalk.parts import is_barred, pieces
from splittalk.split import Found, judge, settle
from splittalk.table import Table, results, whole
from splittalk.talk import End, Say, fits, longest

AND = Table([[0, 0], [0, 1]])
EIGHT = tuple(range(8))
BARRED = Found("barred", None, ((0, 1), (0, 1)))


def groups_of(table, part, person):
    return rows_by_ties(table, part) if person == 1 else columns_by_ties(table, part)


def narrowed(part, person, values):
    return (values, part[1]) if person == 1 else (part[0], values)


def split_by_hand(table, part):
    """The split talk for a part, straight from point 13."""
    if len(results(table, part)) == 1:
        return End()
    best = None
    for person in (1, 2):
        groups = groups_of(table, part, person)
        if len(groups) > 1:
            said = [
                max([k for k in range(len(groups)) if value in groups[k]] or [0])
                for value in whole(table)[person - 1]
            ]
            smaller = [split_by_hand(table, narrowed(part, person, group)) for group in groups]
            talk = surely(person, said, smaller)
            if best is None or longest(talk) < longest(best):
                best = talk
    return best


def sets_of(groups):
    """All ways to put groups together into sets."""
    if not groups:
        return [[]]
    found = []
    for sets in sets_of(groups[1:]):
        found.append([groups[0], *sets])
        for k in range(len(sets)):
            found.append([*sets[:k], tuple(sorted(groups[0] + sets[k])), *sets[k + 1:]])
    return found


def fewest_messages(table):
    """The least number of messages of the right talks of which point 13 tells at its end."""
    @lru_cache(maxsize=None)
    def fewest(part):
        if len(results(table, part)) == 1:
            return 0
        return min(
            1 + max(fewest(narrowed(part, person, values)) for values in sets)
            for person in (1, 2)
            for sets in sets_of(groups_of(table, part, person)) if len(sets) > 1
        )
    return fewest(whole(table))


def barred_pieces(table):
    return [part for part in pieces(table) if is_barred(table, part)]


class Settle(unittest.TestCase):

    def check_talk(self, rows, talk):
        table = Table(rows)
        found = settle(table)
        self.assertEqual((found.kind, found.part), ("talk", None))
        self.assertEqual(outline(found.talk), outline(talk))
        self.assertTrue(found == Found("talk", talk, None))
        self.assertIs(judge(table, found), True)

    def check_barred(self, rows, part):
        table = Table(rows)
        found = settle(table)
        self.assertEqual((found.kind, found.talk, found.part), ("barred", None, part))
        self.assertTrue(found == Found("barred", None, part))
        self.assertIs(judge(table, found), True)

    def test_one_result(self):
        self.check_talk([[7]], End())
        self.check_talk([[7, 7, 7], [7, 7, 7]], End())
        self.check_talk([[0] * 8] * 8, End())

    def test_person_1_begins(self):
        self.check_talk([[0, 0], [2, 1]], surely(1, [0, 1], [End(), by(2, [0, 1])]))
        self.check_talk([[0], [1]], by(1, [0, 1]))

    def test_person_2_begins(self):
        self.check_talk([[0, 1], [2, 1]], surely(2, [0, 1], [by(1, [0, 1]), End()]))
        self.check_talk([[0, 1, 0]], by(2, [0, 1, 0]))

    def test_both_can_begin_with_as_many_messages(self):
        both = by(2, [0, 1])
        self.check_talk([[0, 1], [2, 3]], surely(1, [0, 1], [both, both]))
        self.check_talk([[0, 1], [1, 0]], surely(1, [0, 1], [both, both]))

    def test_both_can_begin_with_unlike_numbers_of_messages(self):
        # Person 1 says the group of the row first: three messages, otherwise four.
        rows = [[0, 1, 4, 5], [2, 1, 6, 5], [7, 7, 8, 9]]
        columns = [list(column) for column in zip(*rows)]
        upper = surely(2, [0, 1, 2, 3], [by(1, [0, 1, 0]), End(), by(1, [0, 1, 0]), End()])
        lower = by(2, [0, 0, 1, 2])
        self.check_talk(rows, surely(1, [0, 0, 1], [upper, lower]))
        # The same with the persons the other way around, where person 2 has to begin.
        left = surely(1, [0, 1, 2, 3], [by(2, [0, 1, 0]), End(), by(2, [0, 1, 0]), End()])
        self.check_talk(columns, surely(2, [0, 0, 1], [left, by(1, [0, 0, 1, 2])]))

    def test_more_than_two_groups(self):
        self.check_talk([[3, 1, 3, 2, 1]], by(2, [0, 1, 0, 2, 1]))
        self.check_talk([[3], [1], [3], [2], [1]], by(1, [0, 1, 0, 2, 1]))
        self.check_talk(
            [[0, 0, 9], [1, 2, 9], [3, 4, 9]],
            surely(2, [0, 0, 1], [
                surely(1, [0, 1, 2], [End(), by(2, [0, 1, 0]), by(2, [0, 1, 0])]), End(),
            ]),
        )

    def test_groups_that_a_chain_joins(self):
        self.check_talk(
            [[0, 1], [0, 2], [3, 2]],
            surely(2, [0, 1], [by(1, [0, 0, 1]), by(1, [0, 1, 1])]),
        )

    def test_values_that_are_not_in_the_part_say_0(self):
        rows = [[0, 0, 0, 0], [4, 1, 2, 3], [4, 5, 5, 5]]
        self.check_talk(rows, surely(1, [0, 1, 1], [End(), surely(2, [0, 1, 1, 1], [
            End(), surely(1, [0, 0, 1], [by(2, [0, 0, 1, 2]), End()]),
        ])]))
        rows = [[0, 4, 4], [0, 1, 5], [0, 2, 5], [0, 3, 5]]
        self.check_talk(rows, surely(2, [0, 1, 1], [End(), surely(1, [0, 1, 1, 1], [
            End(), surely(2, [0, 0, 1], [by(1, [0, 0, 1, 2]), End()]),
        ])]))
        # Also those that are behind all values of the part.
        self.check_talk(
            [[1, 2, 6], [3, 3, 6], [4, 4, 6]],
            surely(2, [0, 0, 1], [
                surely(1, [0, 1, 2], [by(2, [0, 1, 0]), End(), End()]), End(),
            ]),
        )

    def test_lots_are_surely_0_or_1(self):
        talk = settle(Table([[0, 1], [2, 3]])).talk
        self.assertEqual(
            [[(lot.num, lot.den) for lot in row] for row in talk.lots],
            [[(1, 1), (0, 1)], [(0, 1), (1, 1)]],
        )

    def test_one_barred_piece(self):
        self.check_barred([[0, 0], [0, 1]], ((0, 1), (0, 1)))
        self.check_barred([[5, 0, 0], [5, 0, 1], [5, 4, 4]], ((0, 1), (1, 2)))
        self.check_barred([[3, 3, 4], [6, 0, 0], [6, 0, 1]], ((1, 2), (1, 2)))

    def test_several_barred_pieces(self):
        rows = [[0, 0, 5, 5], [0, 1, 6, 6], [2, 3, 8, 8], [2, 3, 8, 9]]
        self.check_barred(rows, ((0, 1), (0, 1)))
        self.check_barred(rows[2:] + rows[:2], ((0, 1), (2, 3)))
        self.check_barred([row[::-1] for row in rows[2:] + rows[:2]], ((0, 1), (0, 1)))

    def test_the_first_by_rows_and_then_by_columns(self):
        rows = [
            [0, 0, 50, 60, 60], [0, 1, 51, 60, 61], [70, 70, 52, 62, 62], [70, 71, 52, 63, 64],
        ]
        self.assertEqual(
            barred_pieces(Table(rows)), [((0, 1), (0, 1)), ((0, 1), (3, 4)), ((2, 3), (0, 1))],
        )
        self.check_barred(rows, ((0, 1), (0, 1)))
        # A piece of the rows (0, 1, 2) stands behind one of the rows (0, 1).
        rows = [[4, 4, 0, 0], [4, 5, 0, 1], [6, 5, 2, 3]]
        self.assertEqual(barred_pieces(Table(rows)), [((0, 1), (2, 3)), ((0, 1, 2), (0, 1))])
        self.check_barred(rows, ((0, 1), (2, 3)))

    def test_a_part_that_is_barred_but_no_piece_is_not_told(self):
        self.check_barred([[0, 0, 0], [0, 1, 0], [0, 0, 0]], ((0, 1, 2), (0, 1, 2)))

    def test_8_rows_and_8_columns(self):
        rows = [[8 * row + column for column in range(8)] for row in range(8)]
        self.check_talk(rows, surely(1, EIGHT, [by(2, EIGHT)] * 8))
        self.check_talk([[row] * 8 for row in range(8)], by(1, EIGHT))
        self.check_talk([list(EIGHT)] * 8, by(2, EIGHT))
        self.check_barred([[max(row, column) for column in range(8)] for row in range(8)], (EIGHT, EIGHT))

    def test_8_rows_and_8_columns_in_many_turns(self):
        # The least of both values, and who has it: one value after the other comes apart.
        rows = [
            [2 * min(row, column) + (1 if column < row else 0) for column in range(8)]
            for row in range(8)
        ]
        table = Table(rows)
        found = settle(table)
        self.assertEqual((found.kind, longest(found.talk)), ("talk", 14))
        self.assertTrue(found.talk == split_by_hand(table, whole(table)))
        self.assertIs(judge(table, found), True)

    def test_by_hand(self):
        kinds = {"talk": 0, "barred": 0}
        for table in some_tables(250, most=6, results=16, seed=41):
            rows = table.rows
            found = settle(table)
            barred = barred_pieces(table)
            kinds[found.kind] += 1
            if barred:
                self.assertTrue(found == Found("barred", None, barred[0]))
            else:
                self.assertTrue(found == Found("talk", split_by_hand(table, whole(table)), None))
                self.assertTrue(fits(table, found.talk))
                self.assertIsNone(open_at(table, found.talk))
                self.assertEqual(gaps(table, found.talk), [])
            self.assertIs(judge(table, found), True)
            self.assertEqual(table.rows, rows)
        self.assertGreater(min(kinds.values()), 30)

    def test_no_such_talk_has_fewer_messages(self):
        lengths = set()
        for table in some_tables(250, most=4, results=9, seed=42):
            if not barred_pieces(table):
                found = settle(table)
                self.assertEqual(longest(found.talk), fewest_messages(table))
                lengths.add(longest(found.talk))
        self.assertTrue({0, 1, 2, 3} <= lengths)

    def test_nothing_is_modified(self):
        for rows in ([[0, 1], [2, 1]], [[0, 0], [0, 1]]):
            table = Table(rows)
            first, second = settle(table), settle(table)
            self.assertTrue(first == second)
            self.assertIsNot(first, second)
            self.assertEqual(table.rows, tuple(tuple(row) for row in rows))


class Judge(unittest.TestCase):

    # Rows 0 and 1 with columns 0 and 1 are barred, and so is what lies in the opposite corner.
    CORNERS = Table([[0, 0, 5, 5], [0, 1, 6, 6], [2, 3, 8, 8], [2, 3, 8, 9]])
    MIDDLE = Table([[0, 0, 0], [0, 1, 0], [0, 0, 0]])

    def talk(self, table, talk, expected):
        before = (table.rows, outline(talk))
        found = Found("talk", talk, None)
        self.assertIs(judge(table, found), expected)
        self.assertEqual((table.rows, outline(talk)), before)
        self.assertTrue(found == Found("talk", talk, None))

    def part(self, table, part, expected):
        self.assertIs(judge(table, Found("barred", None, part)), expected)

    def test_right_and_private(self):
        self.talk(Table([[4, 4]]), End(), True)
        self.talk(Table([[0, 1], [2, 1]]), surely(2, [0, 1], [by(1, [0, 1]), End()]), True)
        # It need not be the split talk, nor be without lots.
        self.talk(Table([[0, 1], [2, 3]]), surely(2, [0, 1], [by(1, [0, 1]), by(1, [0, 1])]), True)
        self.talk(Table([[4, 4]]), say(2, ["1/3 2/3"] * 2, ends(2)), True)
        self.talk(Table([[4, 4], [4, 4]]), deep(100, AND), True)

    def test_does_not_fit(self):
        table = Table([[0, 1], [2, 1]])
        for said in ([0], [0, 1, 1]):
            self.talk(table, surely(2, said, [by(1, [0, 1]), End()]), False)
            self.talk(table, surely(2, [0, 1], [by(1, said), End()]), False)
        self.talk(Table([[4, 4]]), by(1, [0, 0]), False)
        self.talk(Table([[4, 4]]), by(2, [0]), False)
        self.talk(Table([[4, 4]]), surely(1, [0], [by(2, [0, 0, 0])]), False)

    def test_not_right(self):
        self.talk(AND, End(), False)
        self.talk(Table([[0, 1]]), End(), False)
        self.talk(Table([[0], [1]]), End(), False)
        self.talk(Table([[0, 1], [2, 3]]), by(2, [0, 1]), False)
        self.talk(Table([[0, 1], [2, 3]]), by(1, [0, 1]), False)
        self.talk(Table([[0, 1]]), say(2, ["1 0", "1/1000 999/1000"], ends(2)), False)

    def test_right_with_a_gap(self):
        self.talk(AND, surely(1, [0, 1], [by(2, [0, 1]), by(2, [0, 1])]), False)
        self.talk(AND, surely(1, [0, 1], [End(), by(2, [0, 1])]), False)
        self.talk(AND, surely(2, [0, 1], [End(), by(1, [0, 1])]), False)
        self.talk(Table([[4, 4]]), by(2, [0, 1]), False)
        self.talk(Table([[4], [4]]), by(1, [0, 1]), False)
        self.talk(Table([[4, 4]]), say(2, ["1/2 1/2", "499/1000 501/1000"], ends(2)), False)

    def test_a_talk_of_another_table(self):
        found = settle(Table([[0, 0], [2, 1]]))
        self.assertIs(judge(Table([[0, 0], [2, 1]]), found), True)
        self.assertIs(judge(Table([[0, 1], [2, 1]]), found), False)

    def test_barred_parts(self):
        self.part(AND, ((0, 1), (0, 1)), True)
        self.part(self.CORNERS, ((0, 1), (0, 1)), True)
        self.part(self.CORNERS, ((2, 3), (2, 3)), True)

    def test_barred_parts_that_are_no_pieces(self):
        self.part(self.MIDDLE, ((0, 1, 2), (0, 1, 2)), True)
        self.part(self.MIDDLE, ((0, 1), (0, 1)), True)
        self.part(self.MIDDLE, ((1, 2), (0, 1)), True)
        self.part(self.MIDDLE, ((0, 1, 2), (1, 2)), True)

    def test_parts_that_are_not_barred(self):
        self.part(self.MIDDLE, ((0, 2), (0, 1, 2)), False)
        self.part(self.MIDDLE, ((0,), (0,)), False)
        self.part(self.MIDDLE, ((1,), (0, 1, 2)), False)
        self.part(self.CORNERS, ((0, 1), (2, 3)), False)
        self.part(self.CORNERS, ((0, 1, 2, 3), (0, 1, 2, 3)), False)
        self.part(Table([[0, 1], [2, 3]]), ((0, 1), (0, 1)), False)

    def test_parts_that_are_none(self):
        good = (0, 1)
        for wrong in (
            (0, 0, 1), (0, 1, 1), (1, 0), (2, 1), (0, 2, 1), (0, 1, 3), (1, 8), (0, 1, 2 ** 70),
            (-1, 0, 1), (-2, -1), (-1, 1), (),
        ):
            self.part(self.MIDDLE, (wrong, good), False)
            self.part(self.MIDDLE, (good, wrong), False)
            self.part(self.MIDDLE, (wrong, wrong), False)
        self.part(self.MIDDLE, (good, good), True)
        for wrong in ((), (good,), (good, good, good)):
            self.part(self.MIDDLE, wrong, False)

    def test_rows_and_columns_have_their_own_limits(self):
        table = Table([[0, 0, 0], [0, 1, 0]])
        self.part(table, ((0, 1), (1, 2)), True)
        self.part(table, ((1, 2), (0, 1)), False)
        table = Table([[0, 0], [0, 1], [0, 0]])
        self.part(table, ((1, 2), (0, 1)), True)
        self.part(table, ((0, 1), (1, 2)), False)

    def test_the_kind_tells_what_is_judged(self):
        right = surely(2, [0, 1], [by(1, [0, 1]), End()])
        table = Table([[0, 1], [2, 1]])
        self.assertIs(judge(table, Found("talk", right, None)), True)
        self.assertIs(judge(table, Found("barred", right, None)), False)
        self.assertIs(judge(AND, BARRED), True)
        self.assertIs(judge(AND, Found("talk", None, BARRED.part)), False)

    def test_what_the_kind_needs_is_missing(self):
        table = Table([[4, 4]])
        self.assertIs(judge(table, Found("talk", None, None)), False)
        self.assertIs(judge(table, Found("barred", None, None)), False)

    def test_the_other_one_is_none(self):
        self.assertIs(judge(Table([[4, 4]]), Found("talk", End(), ((0,), (0, 1)))), False)
        self.assertIs(judge(AND, Found("barred", End(), BARRED.part)), False)

    def test_nothing_is_modified(self):
        part = ((0, 1), (0, 1))
        found = Found("barred", None, part)
        judge(AND, found)
        self.assertEqual(part, ((0, 1), (0, 1)))
        self.assertTrue(found == BARRED)
        self.assertEqual(AND.rows, ((0, 0), (0, 1)))


class Founds(unittest.TestCase):

    def same(self, one, other):
        self.assertIs(one == other, True)
        self.assertIs(one != other, False)

    def unlike(self, one, other):
        for a, b in ((one, other), (other, one)):
            self.assertIs(a == b, False)
            self.assertIs(a != b, True)

    def test_fields(self):
        talk = by(1, [0, 1])
        found = Found("talk", talk, None)
        self.assertEqual((found.kind, found.part), ("talk", None))
        self.assertIs(found.talk, talk)
        found = Found(kind="barred", talk=None, part=((0, 1), (1, 2)))
        self.assertEqual((found.kind, found.talk, found.part), ("barred", None, ((0, 1), (1, 2))))

    def test_equal(self):
        self.same(Found("talk", End(), None), Found("talk", End(), None))
        self.same(Found("talk", by(1, [0, 1]), None), Found("talk", by(1, (0, 1)), None))
        self.same(BARRED, Found("barred", None, ((0, 1), (0, 1))))

    def test_one_field_differs(self):
        self.unlike(Found("talk", End(), None), Found("barred", End(), None))
        self.unlike(BARRED, Found("talk", None, ((0, 1), (0, 1))))
        self.unlike(Found("talk", End(), None), Found("talk", by(1, [0]), None))
        self.unlike(Found("talk", by(1, [0, 1]), None), Found("talk", by(1, [1, 0]), None))
        self.unlike(Found("talk", End(), None), Found("talk", None, None))
        for part in (((0, 1), (0, 2)), ((0, 2), (0, 1)), ((0, 1), (0,)), ((0, 1), (0, 1, 2)), None):
            self.unlike(BARRED, Found("barred", None, part))

    def test_kinds(self):
        self.unlike(Found("talk", End(), None), BARRED)
        for thing in (None, 1, "talk", End(), AND, ("barred", None, ((0, 1), (0, 1)))):
            self.unlike(BARRED, thing)

    def test_talks_that_are_deep(self):
        self.same(Found("talk", deep(200, AND), None), Found("talk", deep(200, AND), None))
        other = Say(1, [[ratio("1")]] * 2, [deep(199, AND)])
        self.unlike(Found("talk", deep(200, AND), None), Found("talk", other, None))

    def test_keeps_copies_of_lists(self):
        rows, columns = [0, 1], [0, 1]
        found = Found("barred", None, (rows, columns))
        rows.append(2)
        columns.clear()
        self.same(found, BARRED)
        self.assertIs(judge(AND, found), True)
