"""Split talks, and what is found about a table: its split talk or a barred part."""

from splittalk.away import gaps, open_at
from splittalk.parts import is_barred, parts_by, pieces
from splittalk.ratio import Ratio
from splittalk.table import results, whole
from splittalk.talk import End, Say, fits, longest


class Found:
    """What is found about a table: of the kind "talk" or "barred", with a talk or a part."""

    def __init__(self, kind, talk, part):
        self.kind = kind
        self.talk = talk
        self.part = None if part is None else tuple([tuple(numbers) for numbers in part])

    def __eq__(self, other):
        if not isinstance(other, Found) or self.kind != other.kind:
            return False
        return self.talk == other.talk and self.part == other.part


def _split_talk(table, part):
    """The split talk for a part that does not lead to a barred one."""
    if len(results(table, part)) == 1:
        return End()
    # Whoever has just spoken has one group left: both can begin in the whole table only, and what
    # is tried for both there does not double again below.
    by_person = [(person, parts_by(table, part, person)) for person in (1, 2)]
    talks = [_begun(table, person, smaller) for person, smaller in by_person if len(smaller) > 1]
    # Of talks that are as long as each other, min takes the one that person 1 begins.
    return min(talks, key=longest)


def _begun(table, person, smaller):
    """The split talk for a part that comes apart into smaller ones by a person's values."""
    groups = [part[person - 1] for part in smaller]
    lots = [_lots(value, groups) for value in whole(table)[person - 1]]
    return Say(person, lots, [_split_talk(table, part) for part in smaller])


def _lots(value, groups):
    """The lots with which a value surely says the number of its group, or 0 if it is in none."""
    said = 0
    for number, group in enumerate(groups):
        if value in group:
            said = number
    return [Ratio(1) if number == said else Ratio(0) for number in range(len(groups))]


def settle(table):
    """What is found about a table: its split talk, or its first barred piece."""
    for part in pieces(table):
        if is_barred(table, part):
            return Found("barred", None, part)
    return Found("talk", _split_talk(table, whole(table)), None)


def judge(table, found):
    """Whether what is said to be found about a table holds."""
    if found.kind == "talk" and found.part is None:
        return found.talk is not None and _is_private(table, found.talk)
    if found.kind == "barred" and found.talk is None:
        return found.part is not None and _is_barred_part(table, found.part)
    return False


def _is_private(table, talk):
    """Whether a talk fits a table and is right and private."""
    return fits(table, talk) and open_at(table, talk) is None and len(gaps(table, talk)) == 0


def _is_barred_part(table, part):
    """Whether what may be a part is one, and barred."""
    limits = whole(table)
    if len(part) != 2 or any([not _are_some(part[k], limits[k]) for k in range(2)]):
        return False
    return is_barred(table, part)


def _are_some(numbers, values):
    """Whether numbers are some of the values, at least one, in ascending order and none twice."""
    if len(numbers) == 0 or any([number not in values for number in numbers]):
        return False
    return list(numbers) == sorted(set(numbers))
