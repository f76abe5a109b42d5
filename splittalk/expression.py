"""Expressions with any names: reading, writing and reckoning them."""

from splittalk.errors import BadText
from splittalk.limits import LARGEST
from splittalk.words import is_number

_OPERATORS = ("+", "-", "*", "/", "mod", "<", "=")
_DEEPEST = 5


def read_expression(words, at, names, deepest=_DEEPEST):
    """The expression that begins with the word at a place, and the place behind it.

    The names are the words that may stand for values: names of variables, own and lot.
    """
    if at >= len(words):
        raise BadText(len(words))
    word = words[at]
    if word in names:
        return _named(word), at + 1
    if is_number(word):
        return ("number", int(word)), at + 1
    # An operator at the greatest depth leaves no room for what must follow it.
    if word not in _OPERATORS or deepest == 1:
        raise BadText(at)
    one, behind = read_expression(words, at + 1, names, deepest - 1)
    other, behind = read_expression(words, behind, names, deepest - 1)
    return (word, one, other), behind


def _named(word):
    """The data of a word that stands for a value."""
    if word == "own" or word == "lot":
        return (word,)
    return ("variable", word)


def expression_text(expression):
    """The one text of an expression."""
    kind = expression[0]
    if kind in _OPERATORS:
        return f"{kind} {expression_text(expression[1])} {expression_text(expression[2])}"
    if kind == "number" or kind == "variable":
        return f"{expression[1]}"
    return kind


def expression_value(expression, values):
    """The value of an expression; values is a dict of what its names, own and lot stand for."""
    kind = expression[0]
    if kind in _OPERATORS:
        one = expression_value(expression[1], values)
        other = expression_value(expression[2], values)
        return _reckoned(kind, one, other)
    if kind == "number":
        return expression[1]
    if kind == "variable":
        return values[expression[1]]
    return values[kind]


def _reckoned(operator, one, other):
    """What an operator makes of two values."""
    if operator == "+":
        return (one + other) % (LARGEST + 1)
    if operator == "-":
        return max(one - other, 0)
    if operator == "*":
        return (one * other) % (LARGEST + 1)
    if operator == "<":
        return 1 if one < other else 0
    if operator == "=":
        return 1 if one == other else 0
    if operator == "/":
        return 0 if other == 0 else one // other
    return remainder(one, other)


def remainder(one, other):
    """What is left of one number modulo another one, which may be 0."""
    return 0 if other == 0 else one % other
