"""Tables of results, and what stands in their parts."""

from splittalk.errors import BadTable
from splittalk.limits import LARGEST, MOST_VALUES


def _fault(rows):
    """The first reason for which rows make no table, or None."""
    if not 1 <= len(rows) <= MOST_VALUES:
        return "rows"
    width = len(rows[0])
    if not 1 <= width <= MOST_VALUES:
        return "columns"
    if any([len(row) != width for row in rows]):
        return "columns"
    if any([not 0 <= result <= LARGEST for row in rows for result in row]):
        return "results"
    return None


class Table:
    """A result for each row and each column."""

    def __init__(self, rows):
        what = _fault(rows)
        if what is not None:
            raise BadTable(what)
        self.rows = tuple([tuple(row) for row in rows])

    def __eq__(self, other):
        return isinstance(other, Table) and self.rows == other.rows


def whole(table):
    """The part that is the whole table."""
    return tuple(range(len(table.rows))), tuple(range(len(table.rows[0])))


def results(table, part):
    """The different results of a part, ascending."""
    rows, columns = part
    return sorted({table.rows[row][column] for row in rows for column in columns})
