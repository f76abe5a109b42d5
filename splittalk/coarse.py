"""Coarser tables, and tables side by side."""

from splittalk.errors import TooLarge
from splittalk.limits import MOST_VALUES
from splittalk.parts import is_barred, pieces
from splittalk.table import Table, results, whole

_MOST_RESULTS = 5


def merged(table, grouping):
    """The coarser table of a grouping."""
    numbers = {result: number for number, joined in enumerate(grouping) for result in joined}
    return Table([[numbers[result] for result in row] for row in table.rows])


def least_groupings(table):
    """The list of the least groupings of a table, that is of the one."""
    grouping = [[result] for result in results(table, whole(table))]
    if len(grouping) > _MOST_RESULTS:
        raise TooLarge("results")
    # What hangs together in a table does so in each coarser one, where the results of a barred
    # piece have to be one. So only what has to be put together is put together.
    numbers = _barred_results(merged(table, grouping))
    while numbers:
        grouping = _joined(grouping, numbers)
        numbers = _barred_results(merged(table, grouping))
    return [grouping]


def _barred_results(table):
    """The results of the first barred piece of a table, none if there is no such piece."""
    for part in pieces(table):
        if is_barred(table, part):
            return results(table, part)
    return []


def _joined(grouping, numbers):
    """A grouping with the sets of some numbers as one."""
    one = [result for number in numbers for result in grouping[number]]
    others = [joined for number, joined in enumerate(grouping) if number not in numbers]
    return sorted([sorted(one), *others])


def beside(one, other):
    """The table of two tables side by side."""
    rows = [(first, second) for first in one.rows for second in other.rows]
    if max(len(rows), len(one.rows[0]) * len(other.rows[0])) > MOST_VALUES:
        raise TooLarge("values")
    pairs = [[(here, there) for here in first for there in second] for first, second in rows]
    numbers = {}
    for row in pairs:
        for pair in row:
            numbers.setdefault(pair, len(numbers))
    return Table([[numbers[pair] for pair in row] for row in pairs])
