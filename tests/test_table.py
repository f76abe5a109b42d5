"""Tables and their parts: points 1 and 3 and the interface's splittalk/table.py."""

import copy
import unittest

from splittalk.errors import BadTable
from splittalk.table import Table, results, whole


def of(rows, columns, result=1):
    return [[result] * columns for _ in range(rows)]


class Making(unittest.TestCase):

    def fault(self, rows):
        with self.assertRaises(BadTable) as caught:
            Table(rows)
        return caught.exception.what

    def test_lists_and_tuples(self):
        expected = ((1, 2, 3), (4, 5, 6))
        for rows in (
            [[1, 2, 3], [4, 5, 6]], ((1, 2, 3), (4, 5, 6)),
            [(1, 2, 3), [4, 5, 6]], ([1, 2, 3], [4, 5, 6]),
        ):
            table = Table(rows)
            self.assertEqual(table.rows, expected)
            self.assertIs(type(table.rows), tuple)
            for row in table.rows:
                self.assertIs(type(row), tuple)

    def test_named_argument(self):
        self.assertEqual(Table(rows=[[1]]).rows, ((1,),))

    def test_all_sizes(self):
        for rows in range(1, 9):
            for columns in range(1, 9):
                made = [[8 * row + column for column in range(columns)] for row in range(rows)]
                self.assertEqual(Table(made).rows, tuple(tuple(row) for row in made))

    def test_rows(self):
        for rows in ([], (), of(9, 1), of(9, 8), of(20, 3)):
            self.assertEqual(self.fault(rows), "rows")

    def test_columns(self):
        for rows in (
            [[]], [[], []], of(1, 9), of(8, 9), of(2, 30),
            [[], [1]], [[1], []], [[1], [2], []], [[1, 2], [], [3, 4]],
            [[1], [1, 2]], [[1, 2], [1]], [[1, 2], [1, 2], [1, 2, 3]], of(7, 8) + [[1] * 9],
        ):
            self.assertEqual(self.fault(rows), "columns")

    def test_results(self):
        for result in (-1, 65536, -65536, 2 ** 70):
            self.assertEqual(self.fault([[result]]), "results")
            for row in range(8):
                for column in (0, 3, 7):
                    rows = of(8, 8)
                    rows[row][column] = result
                    self.assertEqual(self.fault(rows), "results")

    def test_results_at_the_edges(self):
        self.assertEqual(Table([[0, 65535]]).rows, ((0, 65535),))
        self.assertEqual(Table(of(8, 8, 65535)).rows, ((65535,) * 8,) * 8)
        self.assertEqual(Table(of(8, 8, 0)).rows, ((0,) * 8,) * 8)

    def test_rows_ahead_of_columns(self):
        for rows in (of(9, 0), of(9, 9), [[1]] * 8 + [[1, 2]], [[1]] * 9 + [[]]):
            self.assertEqual(self.fault(rows), "rows")

    def test_rows_ahead_of_results(self):
        self.assertEqual(self.fault(of(9, 1, -1)), "rows")
        self.assertEqual(self.fault(of(9, 8, 65536)), "rows")

    def test_columns_ahead_of_results(self):
        for rows in (
            of(1, 9, 65536), [[], [-1]], [[-1], []], [[-1], [1, 2]], [[1, 2], [65536]],
        ):
            self.assertEqual(self.fault(rows), "columns")

    def test_all_reasons(self):
        self.assertEqual(self.fault(of(9, 9, 65536)), "rows")
        self.assertEqual(self.fault([[-1]] * 8 + [[]]), "rows")

    def test_arguments_are_not_modified(self):
        for rows in ([[1, 2], [3, 4]], [[1, 2], [3]], [[70000]], of(9, 1), []):
            before = copy.deepcopy(rows)
            try:
                Table(rows)
            except BadTable:
                pass
            self.assertEqual(rows, before)

    def test_keeps_copies(self):
        first = [1, 2]
        rows = [first, [3, 4]]
        table = Table(rows)
        first[0] = 9
        first.append(9)
        rows[1][1] = 9
        rows.append([5, 6])
        self.assertEqual(table.rows, ((1, 2), (3, 4)))
        self.assertEqual(whole(table), ((0, 1), (0, 1)))


class Equality(unittest.TestCase):

    def test_equal(self):
        one = Table([[1, 2], [3, 4]])
        self.assertTrue(one == one)
        self.assertTrue(one == Table([[1, 2], [3, 4]]))
        self.assertTrue(one == Table(((1, 2), (3, 4))))
        self.assertFalse(one != Table([(1, 2), (3, 4)]))

    def test_not_equal(self):
        one = Table([[1, 2], [3, 4]])
        for rows in (
            [[1, 2]], [[1, 2], [3, 5]], [[3, 4], [1, 2]], [[1], [3]], [[1, 3], [2, 4]],
            [[1, 2], [3, 4], [5, 6]], [[1, 2, 3, 4]],
        ):
            self.assertFalse(one == Table(rows))
            self.assertTrue(one != Table(rows))


class Parts(unittest.TestCase):

    def test_whole(self):
        self.assertEqual(whole(Table([[5]])), ((0,), (0,)))
        self.assertEqual(whole(Table([[5, 6, 7]])), ((0,), (0, 1, 2)))
        self.assertEqual(whole(Table([[5], [6]])), ((0, 1), (0,)))
        self.assertEqual(whole(Table(of(8, 8))), (tuple(range(8)), tuple(range(8))))

    def test_whole_is_tuples(self):
        part = whole(Table([[1, 2]]))
        self.assertEqual([type(part), type(part[0]), type(part[1])], [tuple] * 3)

    def test_results_of_the_whole(self):
        table = Table([[9, 3, 3], [0, 65535, 9]])
        self.assertEqual(results(table, whole(table)), [0, 3, 9, 65535])
        self.assertIs(type(results(table, whole(table))), list)

    def test_results_of_parts(self):
        table = Table([[9, 3, 3], [0, 65535, 9], [4, 4, 4]])
        for part, expected in [
            (((0,), (0,)), [9]), (((0,), (1, 2)), [3]), (((2,), (0, 1, 2)), [4]),
            (((0, 1), (0, 2)), [0, 3, 9]), (((0, 2), (2,)), [3, 4]),
            (((1,), (0, 1, 2)), [0, 9, 65535]), (((0, 1, 2), (1,)), [3, 4, 65535]),
        ]:
            self.assertEqual(results(table, part), expected)

    def test_results_of_many(self):
        table = Table([[100 * (7 - row) + column for column in range(8)] for row in range(8)])
        expected = [100 * row + column for row in range(8) for column in range(8)]
        self.assertEqual(results(table, whole(table)), expected)

    def test_part_of_lists(self):
        rows, columns = [0, 1], [1]
        table = Table([[1, 2], [3, 4]])
        self.assertEqual(results(table, (rows, columns)), [2, 4])
        self.assertEqual((rows, columns), ([0, 1], [1]))

    def test_answers_are_new(self):
        table = Table([[1, 2]])
        results(table, whole(table)).append(9)
        self.assertEqual(results(table, whole(table)), [1, 2])
        self.assertEqual(table.rows, ((1, 2),))
