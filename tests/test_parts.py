"""Parts: points 1, 5, 6 and 7 and the interface's splittalk/parts.py."""

import random
import unittest

from examples import columns_by_ties, rows_by_ties, some_tables
from splittalk.parts import column_groups, is_barred, pieces, row_groups
from splittalk.table import Table, results, whole

EIGHT = tuple(range(8))
# A table that comes apart by rows, then by columns, then by rows again.
IN_TURN = [
    [0, 1, 4, 5],
    [2, 1, 6, 5],
    [7, 7, 8, 9],
]


def pieces_in_any_order(table, part, chance):
    """The pieces of a part, where it is left to chance what comes apart first."""
    ways = [1, 2]
    chance.shuffle(ways)
    rows, columns = part
    for way in ways:
        if way == 1 and len(rows_by_ties(table, part)) > 1:
            smaller = [(group, columns) for group in rows_by_ties(table, part)]
        elif way == 2 and len(columns_by_ties(table, part)) > 1:
            smaller = [(rows, group) for group in columns_by_ties(table, part)]
        else:
            continue
        return [piece for one in smaller for piece in pieces_in_any_order(table, one, chance)]
    return [part]


class Groups(unittest.TestCase):

    def check(self, rows, by_row, by_column, part=None):
        table = Table(rows)
        part = whole(table) if part is None else part
        self.assertEqual(row_groups(table, part), by_row)
        self.assertEqual(column_groups(table, part), by_column)

    def test_two_groups_each(self):
        self.check([[0, 1], [2, 3]], [(0,), (1,)], [(0,), (1,)])
        self.check([[0, 1], [2, 1]], [(0, 1)], [(0,), (1,)])
        self.check([[0, 0], [2, 1]], [(0,), (1,)], [(0, 1)])

    def test_a_tie_needs_one_column(self):
        # The rows have a result in common, but in no column.
        self.check([[0, 1], [1, 0]], [(0,), (1,)], [(0,), (1,)])
        self.check([[0, 1, 2], [1, 2, 0], [2, 0, 1]], [(0,), (1,), (2,)], [(0,), (1,), (2,)])

    def test_all_equal(self):
        self.check([[5] * 8] * 8, [EIGHT], [EIGHT])

    def test_all_different(self):
        rows = [[8 * row + column for column in range(8)] for row in range(8)]
        singles = [(k,) for k in range(8)]
        self.check(rows, singles, singles)

    def test_one_row(self):
        self.check([[3, 1, 3, 2, 1]], [(0,)], [(0, 2), (1, 4), (3,)])

    def test_one_column(self):
        self.check([[3], [1], [3], [2], [1]], [(0, 2), (1, 4), (3,)], [(0,)])

    def test_one_cell(self):
        self.check([[7]], [(0,)], [(0,)])

    def test_joined_by_a_chain_only(self):
        # Rows 0 and 2 tie in no column; both tie with row 1.
        self.check([[0, 1], [0, 2], [3, 2]], [(0, 1, 2)], [(0,), (1,)])
        self.check([[0, 0, 3], [1, 2, 2]], [(0,), (1,)], [(0, 1, 2)])

    def test_joined_by_the_last_one(self):
        # Two groups have begun when a later row joins them.
        self.check([[0, 1], [2, 3], [4, 5], [0, 3]], [(0, 1, 3), (2,)], [(0,), (1,)])
        self.check([[0, 2, 4, 0], [1, 3, 5, 3]], [(0,), (1,)], [(0, 1, 3), (2,)])

    def test_a_long_chain(self):
        rows = [[100 * row + column for column in range(8)] for row in range(8)]
        chain = (6, 0, 3, 7, 1)
        for k, (one, other) in enumerate(zip(chain, chain[1:])):
            rows[other][k] = rows[one][k]
        singles = [(k,) for k in range(8)]
        self.check(rows, [(0, 1, 3, 6, 7), (2,), (4,), (5,)], singles)

    def test_order_of_groups(self):
        self.check([[1], [2], [3], [2], [1], [3]], [(0, 4), (1, 3), (2, 5)], [(0,)])
        self.check([[1, 2, 3, 3, 2, 1, 0]], [(0,)], [(0, 5), (1, 4), (2, 3), (6,)])

    def test_parts_that_leave_rows_and_columns_out(self):
        rows = [[0, 1, 9], [0, 2, 9], [3, 2, 9]]
        self.check(rows, [(0, 1, 2)], [(0,), (1,)], ((0, 1, 2), (0, 1)))
        # Without row 1, rows 0 and 2 no longer hang together.
        self.check(rows, [(0,), (2,)], [(0,), (1,)], ((0, 2), (0, 1)))
        # In column 2 they tie.
        self.check(rows, [(0, 2)], [(0,), (2,)], ((0, 2), (0, 2)))
        self.check(rows, [(0,), (1, 2)], [(1,)], ((0, 1, 2), (1,)))
        self.check(rows, [(1,)], [(1,), (2,)], ((1,), (1, 2)))
        self.check(rows, [(2,)], [(0,)], ((2,), (0,)))

    def test_columns_hang_by_rows_that_are_left_out(self):
        rows = [[0, 0, 1], [2, 3, 3], [4, 5, 6]]
        self.check(rows, [(0,), (1,), (2,)], [(0, 1, 2)])
        self.check(rows, [(0,), (2,)], [(0, 1), (2,)], ((0, 2), (0, 1, 2)))
        self.check(rows, [(1,), (2,)], [(0,), (1, 2)], ((1, 2), (0, 1, 2)))
        self.check(rows, [(0,), (1,)], [(0,), (2,)], ((0, 1), (0, 2)))

    def test_kinds_of_answers(self):
        table = Table([[0, 1], [2, 1]])
        for found in (row_groups(table, whole(table)), column_groups(table, whole(table))):
            self.assertIs(type(found), list)
            self.assertEqual({type(group) for group in found}, {tuple})

    def test_against_chains_of_ties(self):
        chance = random.Random(5)
        for table in some_tables(150, most=8, results=12, seed=2):
            rows, columns = whole(table)
            for _ in range(4):
                part = (
                    tuple(sorted(chance.sample(rows, chance.randint(1, len(rows))))),
                    tuple(sorted(chance.sample(columns, chance.randint(1, len(columns))))),
                )
                self.assertEqual(row_groups(table, part), rows_by_ties(table, part))
                self.assertEqual(column_groups(table, part), columns_by_ties(table, part))

    def test_nothing_is_modified(self):
        table = Table([[0, 1, 0], [2, 1, 1]])
        part = whole(table)
        row_groups(table, part).append(9)
        column_groups(table, part).clear()
        self.assertEqual(row_groups(table, part), [(0, 1)])
        self.assertEqual(column_groups(table, part), [(0, 1, 2)])
        self.assertEqual(part, ((0, 1), (0, 1, 2)))
        self.assertEqual(table.rows, ((0, 1, 0), (2, 1, 1)))


class Pieces(unittest.TestCase):

    def check(self, rows, expected):
        table = Table(rows)
        found = pieces(table)
        self.assertEqual(found, expected)
        self.assertIs(type(found), list)
        self.check_cells(table, found)

    def check_cells(self, table, found):
        cells = [(row, column) for rows, columns in found for row in rows for column in columns]
        rows, columns = whole(table)
        self.assertEqual(sorted(cells), [(row, column) for row in rows for column in columns])

    def test_not_at_all(self):
        self.check([[0, 0], [0, 1]], [((0, 1), (0, 1))])
        self.check([[4]], [((0,), (0,))])
        self.check([[4] * 8] * 8, [(EIGHT, EIGHT)])

    def test_by_rows_first(self):
        self.check([[0, 0], [2, 1]], [((0,), (0, 1)), ((1,), (0,)), ((1,), (1,))])

    def test_by_columns_first(self):
        self.check([[0, 1], [0, 2]], [((0,), (1,)), ((0, 1), (0,)), ((1,), (1,))])

    def test_several_times_in_turn(self):
        table = Table(IN_TURN)
        self.assertEqual(row_groups(table, whole(table)), [(0, 1), (2,)])
        self.assertEqual(column_groups(table, whole(table)), [(0, 1), (2,), (3,)])
        self.check(IN_TURN, [
            ((0,), (0,)), ((0,), (2,)), ((0, 1), (1,)), ((0, 1), (3,)),
            ((1,), (0,)), ((1,), (2,)), ((2,), (0, 1)), ((2,), (2,)), ((2,), (3,)),
        ])

    def test_one_person_at_a_time(self):
        # Only rows can come apart at first, then only columns, then only rows.
        rows = [[0, 1, 1], [0, 2, 3], [4, 4, 4]]
        table = Table(rows)
        self.assertEqual(len(row_groups(table, whole(table))), 2)
        self.assertEqual(column_groups(table, whole(table)), [(0, 1, 2)])
        upper = ((0, 1), (0, 1, 2))
        self.assertEqual(row_groups(table, upper), [(0, 1)])
        self.assertEqual(column_groups(table, upper), [(0,), (1, 2)])
        self.check(rows, [
            ((0,), (1, 2)), ((0, 1), (0,)), ((1,), (1,)), ((1,), (2,)), ((2,), (0, 1, 2)),
        ])

    def test_with_barred_pieces(self):
        self.check(
            [[0, 0, 5, 5], [0, 1, 6, 6], [2, 3, 8, 8], [2, 3, 8, 9]],
            [((0,), (2, 3)), ((0, 1), (0, 1)), ((1,), (2, 3)),
             ((2, 3), (0,)), ((2, 3), (1,)), ((2, 3), (2, 3))],
        )

    def test_order_is_by_rows_then_by_columns(self):
        self.check(
            [[0, 1], [2, 3]],
            [((0,), (0,)), ((0,), (1,)), ((1,), (0,)), ((1,), (1,))],
        )
        self.check([[1, 2, 1, 3, 2]], [((0,), (0, 2)), ((0,), (1, 4)), ((0,), (3,))])
        # Rows (0, 2) stand behind (0,) and ahead of (1,).
        self.check(
            [[0, 1], [2, 3], [0, 4]],
            [((0,), (1,)), ((0, 2), (0,)), ((1,), (0,)), ((1,), (1,)), ((2,), (1,))],
        )

    def test_all_different(self):
        rows = [[8 * row + column for column in range(8)] for row in range(8)]
        self.check(rows, [((row,), (column,)) for row in range(8) for column in range(8)])

    def test_whatever_comes_apart_first(self):
        chance = random.Random(9)
        for table in some_tables(200, most=8, results=24, seed=3):
            found = pieces(table)
            self.assertEqual(found, sorted(found))
            self.check_cells(table, found)
            for _ in range(3):
                other = pieces_in_any_order(table, whole(table), chance)
                self.assertEqual(found, sorted(other))

    def test_nothing_is_modified(self):
        table = Table([[0, 1], [2, 1]])
        pieces(table).clear()
        self.assertEqual(pieces(table), [((0,), (0,)), ((0, 1), (1,)), ((1,), (0,))])
        self.assertEqual(table.rows, ((0, 1), (2, 1)))


class Barred(unittest.TestCase):

    def check(self, rows, expected, part=None):
        table = Table(rows)
        self.assertIs(is_barred(table, whole(table) if part is None else part), expected)

    def test_one_result(self):
        self.check([[7]], False)
        self.check([[7, 7], [7, 7]], False)
        self.check([[7] * 8] * 8, False)
        self.check([[0, 0], [0, 1]], False, ((0, 1), (0,)))

    def test_two_results_and_one_group_each(self):
        self.check([[0, 0], [0, 1]], True)
        self.check([[1, 0], [1, 1]], True)
        self.check([[0, 0, 1], [3, 4, 1], [3, 2, 2]], True)

    def test_more_row_groups(self):
        self.check([[0, 0], [1, 1]], False)
        self.check([[0, 0], [2, 1]], False)
        self.check([[0], [1]], False)

    def test_more_column_groups(self):
        self.check([[0, 1], [0, 1]], False)
        self.check([[0, 1], [0, 2]], False)
        self.check([[0, 1]], False)

    def test_more_groups_of_both(self):
        self.check([[0, 1], [2, 3]], False)
        self.check([[0, 1], [1, 0]], False)

    def test_parts(self):
        rows = [[0, 0, 5, 5], [0, 1, 6, 6], [2, 3, 8, 8], [2, 3, 8, 9]]
        self.check(rows, True, ((0, 1), (0, 1)))
        self.check(rows, True, ((2, 3), (2, 3)))
        self.check(rows, False)
        self.check(rows, False, ((0, 1), (2, 3)))
        self.check(rows, False, ((0, 3), (0, 1, 2, 3)))

    def test_parts_that_are_no_pieces(self):
        rows = [[0, 0, 0], [0, 1, 0], [0, 0, 0]]
        self.check(rows, True)
        self.check(rows, True, ((0, 1), (0, 1)))
        self.check(rows, True, ((1, 2), (1, 2)))
        self.check(rows, False, ((0, 2), (0, 1, 2)))

    def test_pieces_are_barred_by_their_results(self):
        for table in some_tables(100, most=6, results=9, seed=4):
            for part in pieces(table):
                self.assertIs(is_barred(table, part), len(results(table, part)) > 1)
