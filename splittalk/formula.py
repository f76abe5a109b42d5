"""Formulas: expressions of the numbers of the row and of the column."""

from splittalk.errors import BadText
from splittalk.expression import expression_text, expression_value, read_expression
from splittalk.table import Table
from splittalk.words import words_of


def read_formula(text):
    """The data of the formula that a text writes."""
    words = words_of(text)
    formula, behind = read_expression(words, 0, ("a", "b"))
    if behind < len(words):
        raise BadText(behind)
    return formula


def formula_text(formula):
    """The one text of a formula."""
    return expression_text(formula)


def formula_table(formula, rows, columns):
    """The table of a formula with so many rows and columns."""
    return Table([
        [expression_value(formula, {"a": row, "b": column}) for column in range(columns)]
        for row in range(rows)
    ])
