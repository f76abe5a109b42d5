"""Parts of tables: what hangs together in them, and the pieces into which a table comes apart."""

from splittalk.table import results, whole


def row_groups(table, part):
    """The rows of a part, put together by ties."""
    rows, columns = part
    return _groups({row: [table.rows[row][column] for column in columns] for row in rows})


def column_groups(table, part):
    """The columns of a part, put together by ties."""
    rows, columns = part
    return _groups({column: [table.rows[row][column] for row in rows] for column in columns})


def _groups(lines):
    """The numbers of lines, put together by ties; lines is a dict of the results of each number."""
    groups = []
    for number in lines:
        joined = [number]
        apart = []
        for group in groups:
            if any([_tie(lines[number], lines[other]) for other in group]):
                joined = joined + group
            else:
                apart.append(group)
        groups = [*apart, joined]
    return sorted([tuple(sorted(group)) for group in groups])


def _tie(one, other):
    """Whether two lines have the same result in some place."""
    return any([here == there for here, there in zip(one, other)])


def parts_by(table, part, person):
    """The parts into which a part comes apart by the groups of a person's values."""
    rows, columns = part
    if person == 1:
        return [(group, columns) for group in row_groups(table, part)]
    return [(rows, group) for group in column_groups(table, part)]


def pieces(table):
    """The parts of a table that do not come apart, in the order of their rows, then columns."""
    found = []
    left = [whole(table)]
    while left:
        part = left.pop()
        by_rows = parts_by(table, part, 1)
        by_columns = parts_by(table, part, 2)
        if len(by_rows) > 1:
            left.extend(by_rows)
        elif len(by_columns) > 1:
            left.extend(by_columns)
        else:
            found.append(part)
    return sorted(found)


def is_barred(table, part):
    """Whether a part has different results, but neither its rows nor its columns come apart."""
    if len(results(table, part)) == 1:
        return False
    return len(row_groups(table, part)) == 1 and len(column_groups(table, part)) == 1
