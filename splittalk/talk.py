"""Talks: trees of messages and ends, and the chances of their ends.

Talks are walked by loops: ways may have more messages than recursion should have calls.
"""

from splittalk.errors import BadTalk
from splittalk.ratio import Ratio, over_one


class End:
    """An end of a talk."""

    def __eq__(self, other):
        return isinstance(other, End)


class Say:
    """A message: the person who sends it, lots for each value of this person, and what follows."""

    def __init__(self, person, lots, parts):
        what = _fault(person, lots, parts)
        if what is not None:
            raise BadTalk(what)
        self.person = person
        self.lots = tuple([tuple(row) for row in lots])
        self.parts = tuple(parts)

    def __eq__(self, other):
        return _same(self, other)


def _fault(person, lots, parts):
    """The first reason for which something makes no message, or None."""
    if person not in (1, 2):
        return "person"
    if len(parts) == 0:
        return "parts"
    if len(lots) == 0 or any([not are_lots(row, len(parts)) for row in lots]):
        return "lots"
    return None


def are_lots(row, many):
    """Whether fractions may be the lots of one value for so many possible messages."""
    if len(row) != many or any([lot.num < 0 for lot in row]):
        return False
    nums, den = over_one(row)
    return sum(nums) == den


def _same(one, other):
    """Whether two nodes are equal, with all that follows them."""
    pairs = [(one, other)]
    while pairs:
        here, there = pairs.pop()
        if isinstance(here, Say) and isinstance(there, Say):
            if not _same_message(here, there):
                return False
            pairs.extend(list(zip(here.parts, there.parts)))
        elif not (isinstance(here, End) and isinstance(there, End)):
            return False
    return True


def _same_message(one, other):
    """Whether two messages are equal up to what their parts are."""
    if one.person != other.person or len(one.parts) != len(other.parts):
        return False
    return one.lots == other.lots


def _below(nodes):
    """The parts of those nodes that are messages."""
    return [part for node in nodes if isinstance(node, Say) for part in node.parts]


def nodes_of(talk):
    """The nodes of a talk, each ahead of its parts and earlier parts first."""
    nodes = []
    left = [talk]
    while left:
        node = left.pop()
        nodes.append(node)
        if isinstance(node, Say):
            # The last one is taken first, so that the earliest part has to stand last.
            left.extend(node.parts[::-1])
    return nodes


def talk_from(plan):
    """The talk of a plan: what its nodes are, in the order of nodes_of.

    A plan has None for an end, and for a message its person, its lots and the number of its parts.
    """
    made = []
    for step in reversed(plan):
        if step is None:
            made.append(End())
        else:
            person, lots, many = step
            # What follows is made when the turn of its node comes, the first part last of all.
            first = len(made) - many
            parts = made[first:]
            del made[first:]
            made.append(Say(person, lots, parts[::-1]))
    return made[0]


def fits(table, talk):
    """Whether each message has a list of lots for each value that its person has in the table."""
    values = {1: len(table.rows), 2: len(table.rows[0])}
    messages = [node for node in nodes_of(talk) if isinstance(node, Say)]
    return all([len(message.lots) == values[message.person] for message in messages])


def longest(talk):
    """The number of messages on the longest way to an end."""
    many = 0
    nodes = _below([talk])
    while nodes:
        many += 1
        nodes = _below(nodes)
    return many


def chances(talk, row, column):
    """The way to each end and its chance for a row and a column, earlier parts first."""
    return _ends(talk, {1: row, 2: column})


def weights(talk, person, value):
    """What the lots of one person alone make of the chance of each end, in the order of chances."""
    return [weight for _, weight in _ends(talk, {person: value})]


def _ends(talk, values):
    """The way to each end and the product of the lots on it, earlier parts first.

    Values is a dict of the values of persons; lots of a person who is not in it do not count.
    """
    told = []
    left = [(talk, (), Ratio(1))]
    while left:
        node, way, weight = left.pop()
        if isinstance(node, Say):
            steps = [
                (part, (*way, message), weight * lot)
                for message, (part, lot) in enumerate(zip(node.parts, _counted(node, values)))
            ]
            # The last one is taken first, so that the earliest part has to stand last.
            left.extend(steps[::-1])
        else:
            told.append((way, weight))
    return told


def _counted(message, values):
    """The lots of a message for the value of its person, or ones if they do not count."""
    if message.person in values:
        return message.lots[values[message.person]]
    return [Ratio(1)] * len(message.parts)
