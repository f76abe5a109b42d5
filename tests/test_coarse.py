"""Coarser tables and tables side by side: points 1, 19 and 20 and splittalk/coarse.py."""

import random
import unittest

from examples import some_tables
from splittalk.coarse import beside, least_groupings, merged
from splittalk.errors import TalkError, TooLarge
from splittalk.parts import is_barred, pieces
from splittalk.split import judge, settle
from splittalk.table import Table, results, whole

AND = Table([[0, 0], [0, 1]])


def groupings_of(values):
    """All groupings of results in ascending order."""
    if not values:
        return [[]]
    found = []
    for sets in groupings_of(values[:-1]):
        found.append([*sets, [values[-1]]])
        for k in range(len(sets)):
            found.append([*sets[:k], [*sets[k], values[-1]], *sets[k + 1:]])
    return [sorted(sets) for sets in found]


def is_finer(one, other):
    """Whether a grouping is finer than another one, by the words of point 19."""
    return one != other and all(any(set(a) <= set(b) for b in other) for a in one)


def is_good(table, grouping):
    """Whether the coarser table has no barred piece, worked out without the package's merged."""
    number = {result: k for k, joined in enumerate(grouping) for result in joined}
    coarser = Table([[number[result] for result in row] for row in table.rows])
    return not any(is_barred(coarser, part) for part in pieces(coarser))


def least_by_hand(table):
    """All least groupings, by looking at each grouping, and all that have no barred piece."""
    good = [
        grouping for grouping in groupings_of(results(table, whole(table)))
        if is_good(table, grouping)
    ]
    return [one for one in good if not any(is_finer(other, one) for other in good)], good


class Merged(unittest.TestCase):

    def check(self, rows, grouping, expected):
        table = Table(rows)
        made = merged(table, grouping)
        self.assertIsInstance(made, Table)
        self.assertEqual(made.rows, tuple(tuple(row) for row in expected))
        self.assertTrue(made == Table(expected))
        self.assertTrue(table == Table(rows))

    def test_one_result(self):
        self.check([[7]], [[7]], [[0]])
        self.check([[0, 0], [0, 0]], [[0]], [[0, 0], [0, 0]])

    def test_all_apart(self):
        self.check([[0, 1], [2, 3]], [[0], [1], [2], [3]], [[0, 1], [2, 3]])
        self.check([[9, 5], [65535, 5]], [[5], [9], [65535]], [[1, 0], [2, 0]])

    def test_all_together(self):
        self.check([[9, 5], [65535, 5]], [[5, 9, 65535]], [[0, 0], [0, 0]])

    def test_some_together(self):
        self.check([[0, 1, 2], [3, 4, 5]], [[0, 3], [1, 2, 5], [4]], [[0, 1, 1], [0, 2, 1]])
        self.check([[10, 30], [20, 40]], [[10, 40], [20], [30]], [[0, 2], [1, 0]])

    def test_the_numbers_are_those_of_the_sets(self):
        self.check([[1, 0]], [[0], [1]], [[1, 0]])
        self.check([[8, 3, 5]], [[3, 8], [5]], [[0, 0, 1]])
        self.check([[8, 3, 5]], [[3], [5, 8]], [[1, 0, 1]])

    def test_more_than_five_results(self):
        rows = [[8 * row + column for column in range(8)] for row in range(8)]
        self.check(rows, [[k] for k in range(64)], rows)
        self.check(rows, [[8 * row + column for row in range(8)] for column in range(8)],
                   [list(range(8))] * 8)

    def test_tuples(self):
        self.check([[1, 0, 2]], ((0, 2), (1,)), [[1, 0, 0]])

    def test_the_grouping_stays(self):
        grouping = [[0, 2], [1]]
        merged(Table([[0, 1, 2]]), grouping)
        self.assertEqual(grouping, [[0, 2], [1]])


class Least(unittest.TestCase):

    def check(self, rows, expected):
        table = Table(rows)
        found = least_groupings(table)
        self.assertEqual(found, [expected])
        self.assertIs(type(found), list)
        self.assertIs(type(found[0]), list)
        self.assertTrue(all(type(joined) is list for joined in found[0]))
        self.assertEqual(least_by_hand(table)[0], [expected])
        self.assertTrue(table == Table(rows))

    def too_large(self, rows):
        with self.assertRaises(TooLarge) as caught:
            least_groupings(Table(rows))
        self.assertEqual(caught.exception.what, "results")
        self.assertIsInstance(caught.exception, TalkError)

    def test_one_result(self):
        self.check([[0]], [[0]])
        self.check([[7, 7], [7, 7]], [[7]])
        self.check([[65535] * 8] * 8, [[65535]])

    def test_not_barred(self):
        self.check([[0, 1], [2, 1]], [[0], [1], [2]])
        self.check([[9, 4], [7, 4]], [[4], [7], [9]])
        self.check([[4, 3, 2, 1, 0]], [[0], [1], [2], [3], [4]])
        self.check([[4], [3], [9], [1], [0]], [[0], [1], [3], [4], [9]])

    def test_all_results_are_put_together(self):
        # The only coarser table without barred pieces has one result.
        self.check([[0, 0], [0, 1]], [[0, 1]])
        self.check([[3, 3], [3, 8]], [[3, 8]])
        self.check([[0, 0, 1], [4, 2, 1], [4, 3, 3]], [[0, 1, 2, 3, 4]])

    def test_some_results_are_put_together(self):
        self.check([[0, 0, 5], [0, 1, 5], [4, 4, 4]], [[0, 1], [4], [5]])
        self.check([[0, 0, 2], [0, 1, 2]], [[0, 1], [2]])
        self.check([[7, 7, 7], [2, 2, 9], [2, 5, 9]], [[2, 5], [7], [9]])

    def test_two_barred_pieces(self):
        self.check([[0, 0, 2, 2], [0, 1, 2, 3]], [[0, 1], [2, 3]])
        self.check([[0, 0, 4, 1, 1], [0, 2, 4, 1, 3]], [[0, 2], [1, 3], [4]])
        # Both have a result in common.
        self.check([[0, 0, 1, 1], [0, 1, 1, 2]], [[0, 1, 2]])

    def test_what_is_put_together_ties_more(self):
        # With 0 and 1 as one result all of both rows hang together.
        rows = [[0, 0, 2], [0, 1, 3], [4, 4, 2]]
        self.check(rows, least_by_hand(Table(rows))[0][0])
        turns = set()
        for table in some_tables(600, most=4, results=5, seed=81):
            first = set()
            for part in pieces(table):
                if is_barred(table, part):
                    first.update(results(table, part))
            joined = {k for sets in least_groupings(table)[0] if len(sets) > 1 for k in sets}
            turns.add(joined == first)
        self.assertEqual(turns, {True, False})

    def test_the_order_of_the_sets(self):
        self.check([[1, 1, 0], [1, 2, 0]], [[0], [1, 2]])
        self.check([[0, 0, 1], [0, 2, 1]], [[0, 2], [1]])
        self.check([[3, 3, 0, 1], [3, 1, 0, 2]], [[0], [1, 2, 3]])
        self.check([[9, 9, 4, 4], [9, 1, 4, 7]], [[1, 9], [4, 7]])

    def test_five_and_six_results(self):
        self.check([[5, 6, 7, 8, 9]], [[5], [6], [7], [8], [9]])
        self.check([[5, 5, 7], [5, 8, 9], [5, 1, 1]], [[1, 5, 7, 8, 9]])
        self.too_large([[5, 6, 7, 8, 9, 10]])
        self.too_large([[0, 0, 1], [0, 2, 3], [5, 4, 4]])
        self.too_large([[0, 0, 1, 2, 3, 4, 5, 6]])
        self.too_large([[8 * row + column for column in range(8)] for row in range(8)])

    def test_eight_rows_and_columns(self):
        self.check([[min(row, column, 4) for column in range(8)] for row in range(8)], [[0, 1, 2, 3, 4]])
        self.check([[min(row, 4)] * 8 for row in range(8)], [[0], [1], [2], [3], [4]])

    def test_beside_all_groupings(self):
        kinds = set()
        for table in some_tables(500, most=5, results=5, seed=82):
            found = least_groupings(table)
            least, good = least_by_hand(table)
            self.assertEqual(found, least)
            for other in good:
                self.assertTrue(other == found[0] or is_finer(found[0], other))
            many = len(results(table, whole(table)))
            kinds.add("apart" if len(found[0]) == many else "one" if len(found[0]) == 1 else "some")
        self.assertEqual(kinds, {"apart", "one", "some"})

    def test_results_that_are_not_in_a_row(self):
        chance = random.Random(83)
        for table in some_tables(150, most=4, results=5, seed=84):
            names = sorted(chance.sample(range(65536), 5))
            other = Table([[names[result] for result in row] for row in table.rows])
            self.assertEqual(
                least_groupings(other),
                [[[names[k] for k in joined] for joined in least_groupings(table)[0]]],
            )

    def test_the_coarser_table_has_a_talk(self):
        for table in some_tables(150, most=5, results=5, seed=85):
            coarser = merged(table, least_groupings(table)[0])
            found = settle(coarser)
            self.assertEqual(found.kind, "talk")
            self.assertIs(judge(coarser, found), True)

    def test_answers_are_new(self):
        least_groupings(AND)[0][0].clear()
        self.assertEqual(least_groupings(AND), [[[0, 1]]])


class Beside(unittest.TestCase):

    def check(self, one, other, expected):
        first, second = Table(one), Table(other)
        made = beside(first, second)
        self.assertIsInstance(made, Table)
        self.assertEqual(made.rows, tuple(tuple(row) for row in expected))
        self.assertTrue(first == Table(one) and second == Table(other))

    def too_large(self, one, other):
        for a, b in ((one, other), (other, one)):
            with self.assertRaises(TooLarge) as caught:
                beside(Table(a), Table(b))
            self.assertEqual(caught.exception.what, "values")
            self.assertIsInstance(caught.exception, TalkError)

    def test_one_value(self):
        self.check([[5]], [[9]], [[0]])
        self.check([[5]], [[9, 3], [9, 9]], [[0, 1], [0, 0]])
        self.check([[9, 3], [9, 9]], [[5]], [[0, 1], [0, 0]])

    def test_the_order_of_rows_and_columns(self):
        self.check([[0, 1]], [[0, 1]], [[0, 1, 2, 3]])
        self.check([[0], [1]], [[0], [1]], [[0], [1], [2], [3]])
        # The first of both tables changes more slowly.
        self.check([[0, 1]], [[0, 0, 1]], [[0, 0, 1, 2, 2, 3]])
        self.check([[0, 0, 1]], [[0, 1]], [[0, 1, 0, 1, 2, 3]])
        self.check([[0], [1]], [[0], [0], [1]], [[0], [0], [1], [2], [2], [3]])
        self.check([[0], [0], [1]], [[0], [1]], [[0], [1], [0], [1], [2], [3]])

    def test_rows_of_one_and_columns_of_the_other(self):
        self.check([[0], [1]], [[0, 1]], [[0, 1], [2, 3]])
        self.check([[0, 1]], [[0], [1]], [[0, 1], [2, 3]])

    def test_the_same_result_if_both_are_the_same(self):
        self.check([[0, 0], [0, 1]], [[0, 1]], [[0, 1, 0, 1], [0, 1, 2, 3]])
        self.check([[0, 1]], [[1, 0]], [[0, 1, 2, 3]])
        # 1 with 2 is not 2 with 1.
        self.check([[1, 2]], [[1, 2]], [[0, 1, 2, 3]])

    def test_results_are_numbered_as_they_stand(self):
        self.check([[9, 5]], [[7, 7]], [[0, 0, 1, 1]])
        self.check([[65535, 0]], [[3, 2]], [[0, 1, 2, 3]])
        self.check([[4, 4], [6, 4]], [[1], [0]], [[0, 0], [1, 1], [2, 0], [3, 1]])

    def test_one_table_with_itself(self):
        self.check([[0, 0], [0, 1]], [[0, 0], [0, 1]],
                   [[0, 0, 0, 0], [0, 1, 0, 1], [0, 0, 2, 2], [0, 1, 2, 3]])
        made = beside(AND, AND)
        self.assertEqual(pieces(made), [whole(made)])
        self.assertTrue(AND == Table([[0, 0], [0, 1]]))

    def test_eight_values(self):
        eight = [[column for column in range(8)]]
        self.check(eight, [[3]], eight)
        self.check([[3]], eight, eight)
        self.check([[1, 2]], [[1, 2, 3, 4]], eight)
        rows = [[2 * row + column for column in range(2)] for row in range(2)]
        wide = [[4 * row + column for column in range(4)] for row in range(4)]
        self.assertEqual(len(beside(Table(rows), Table(wide)).rows), 8)
        self.check([[k] for k in range(8)], eight,
                   [[8 * row + column for column in range(8)] for row in range(8)])
        self.check([[1]] * 4, [[1], [2]], [[0], [1]] * 4)

    def test_nine_and_more_values(self):
        self.too_large([[1]] * 3, [[1]] * 3)
        self.too_large([[1] * 3], [[1] * 3])
        self.too_large([[1] * 8] * 3, [[1]] * 3)
        self.too_large([[1] * 3] * 8, [[1] * 3])
        self.too_large([[1]] * 5, [[1]] * 2)
        self.too_large([[1] * 5], [[1] * 2])
        self.too_large([[1] * 8] * 8, [[1, 1]])
        self.too_large([[1] * 8] * 8, [[1], [1]])
        self.too_large([[1] * 8] * 8, [[1] * 8] * 8)

    def test_by_hand(self):
        made = 0
        for one, other in zip(some_tables(200, seed=86), some_tables(200, seed=87)):
            rows = len(one.rows) * len(other.rows)
            columns = len(one.rows[0]) * len(other.rows[0])
            if max(rows, columns) > 8:
                self.too_large(one.rows, other.rows)
                continue
            table = beside(one, other)
            made += 1
            pairs = [
                [(one.rows[r // len(other.rows)][c // len(other.rows[0])],
                  other.rows[r % len(other.rows)][c % len(other.rows[0])]) for c in range(columns)]
                for r in range(rows)
            ]
            order = []
            for pair in sum(pairs, []):
                if pair not in order:
                    order.append(pair)
            self.assertEqual(table.rows, tuple(tuple(map(order.index, row)) for row in pairs))
            self.check_pieces(one, other, table)
        self.assertGreater(made, 50)

    def check_pieces(self, one, other, table):
        """The pieces are those of the first table with those of the second one, side by side."""
        def both(first, second, many):
            return tuple(a * many + b for a in first for b in second)

        expected = [
            (both(a[0], b[0], len(other.rows)), both(a[1], b[1], len(other.rows[0])))
            for a in pieces(one) for b in pieces(other)
        ]
        self.assertEqual(pieces(table), sorted(expected))
        kinds = {settle(one).kind, settle(other).kind}
        self.assertEqual(settle(table).kind, "barred" if "barred" in kinds else "talk")
