"""What a talk gives away, and whether both know the result at its ends.

The chance of an end is the product of two weights, one for the row and one for the column. These
are reckoned for each value alone, as chances of long ways are fractions of very many digits.
"""

from splittalk.ratio import Ratio, over_one
from splittalk.table import whole
from splittalk.talk import chances, weights


def open_at(table, talk):
    """The first person, value and way with which the result is not known, or None."""
    ways = [way for way, _ in chances(talk, 0, 0)]
    for person, lines, own, others in _sides(table, talk):
        for value, beside in enumerate(lines):
            for end, way in enumerate(ways):
                if own[value][end].num > 0 and _is_open(beside, others, end):
                    return person, value, way
    return None


def gaps(table, talk):
    """All gaps that are not 0, each with its person, its value and both values of the other one."""
    found = []
    for person, lines, own, others in _sides(table, talk):
        surplus = _surplus(others)
        for value, beside in enumerate(lines):
            mine = over_one(own[value])
            for one, other in _alike(beside):
                gap = _summed(mine, surplus[one, other])
                if gap.num > 0:
                    found.append((person, value, one, other, gap))
    return found


def _sides(table, talk):
    """For each person its lines of results, the weights of its values and those of the other's.

    Weights are a list for each value, with one weight for each end.
    """
    rows, columns = whole(table)
    first = [weights(talk, 1, row) for row in rows]
    second = [weights(talk, 2, column) for column in columns]
    return [(1, table.rows, first, second), (2, list(zip(*table.rows)), second, first)]


def _is_open(beside, others, end):
    """Whether values of the other person with different results come to an end."""
    return len({result for result, told in zip(beside, others) if told[end].num > 0}) > 1


def _pairs(many):
    """The pairs of so many values, in ascending order."""
    return [(one, other) for one in range(many) for other in range(one + 1, many)]


def _alike(beside):
    """The pairs of values that have the same result beside them."""
    return [(one, other) for one, other in _pairs(len(beside)) if beside[one] == beside[other]]


def _surplus(others):
    """For each pair of values, how much greater the weights of the first one are."""
    return {
        (one, other): over_one([_more(a, b) for a, b in zip(others[one], others[other])])
        for one, other in _pairs(len(others))
    }


def _more(one, other):
    """How much greater the first fraction is, or 0."""
    return one - other if other.less(one) else Ratio(0)


def _summed(mine, surplus):
    """The sum of the products of two lists of fractions, each of them as over_one tells it."""
    ones, den = mine
    others, base = surplus
    return Ratio(sum([one * other for one, other in zip(ones, others)]), den * base)
