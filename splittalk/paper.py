"""Papers: what is found about a table, as lines."""

from splittalk.errors import BadPaper
from splittalk.limits import MOST_VALUES
from splittalk.ratio import Ratio
from splittalk.split import Found
from splittalk.talk import Say, are_lots, nodes_of, talk_from
from splittalk.words import PERSONS, are_digits, is_number, words_of

_MOST_MESSAGES = 99
# In each part of a fraction.
_MOST_DIGITS = 60


def paper_lines(found):
    """The lines of the paper of what is found."""
    if found.kind == "barred":
        return ["barred", *[_line(numbers) for numbers in found.part]]
    return ["talk", *[line for node in nodes_of(found.talk) for line in _node_lines(node)]]


def _line(worths):
    """The line of some numbers or fractions."""
    return " ".join([str(worth) for worth in worths])


def _node_lines(node):
    """The lines of a node without its parts."""
    if not isinstance(node, Say):
        return ["end"]
    return [f"{PERSONS[node.person - 1]} {len(node.parts)}", *[_line(row) for row in node.lots]]


def read_paper(table, lines):
    """What is found, as lines for a table write it."""
    kind = _line_at(lines, 0)
    if kind == "barred":
        found = Found("barred", None, (_numbers_at(lines, 1), _numbers_at(lines, 2)))
        behind = 3
    elif kind == "talk":
        plan, behind = _plan(table, lines)
        found = Found("talk", talk_from(plan), None)
    else:
        raise BadPaper(0)
    if behind < len(lines):
        raise BadPaper(behind)
    return found


def _line_at(lines, at):
    """The line at an index, which must not be missing."""
    if at >= len(lines):
        raise BadPaper(len(lines))
    return lines[at]


def _numbers_at(lines, at):
    """The numbers of rows or of columns that a line writes."""
    words = words_of(_line_at(lines, at))
    if len(words) == 0 or any([not is_number(word) for word in words]):
        raise BadPaper(at)
    numbers = [int(word) for word in words]
    if numbers[-1] >= MOST_VALUES or numbers != sorted(set(numbers)):
        raise BadPaper(at)
    return numbers


def _plan(table, lines):
    """The plan of the talk that lines write, as talk_from takes it, and the index behind it."""
    many = {1: len(table.rows), 2: len(table.rows[0])}
    plan = []
    at = 1
    due = 1
    while due > 0:
        due -= 1
        if _line_at(lines, at) == "end":
            plan.append(None)
            at += 1
        else:
            person, choices = _head_at(lines, at)
            behind = at + 1 + many[person]
            lots = [_lots_at(lines, k, choices) for k in range(at + 1, behind)]
            plan.append((person, lots, choices))
            at = behind
            due += choices
    return plan, at


def _head_at(lines, at):
    """The person of a message and the number of its parts, as a line writes them."""
    words = words_of(_line_at(lines, at))
    if len(words) != 2 or words[0] not in PERSONS or not is_number(words[1]):
        raise BadPaper(at)
    if not 1 <= int(words[1]) <= _MOST_MESSAGES:
        raise BadPaper(at)
    return PERSONS.index(words[0]) + 1, int(words[1])


def _lots_at(lines, at, many):
    """The lots for so many possible messages that a line writes."""
    words = words_of(_line_at(lines, at))
    if any([not _is_lot(word) for word in words]):
        raise BadPaper(at)
    lots = [_lot(word) for word in words]
    if not are_lots(lots, many):
        raise BadPaper(at)
    return lots


def _is_lot(word):
    """Whether a word writes a fraction in the one way in which it is written."""
    parts = word.split("/")
    if len(parts) > 2 or any([not _is_part(part) for part in parts]):
        return False
    if len(parts) == 2 and int(parts[1]) == 0:
        return False
    # No other way to write the same fraction comes out again.
    return str(_lot(word)) == word


def _is_part(word):
    """Whether a word may be a part of a fraction."""
    return 1 <= len(word) <= _MOST_DIGITS and are_digits(word)


def _lot(word):
    """The fraction that a word writes."""
    num, _, den = word.partition("/")
    return Ratio(int(num), 1 if den == "" else int(den))
