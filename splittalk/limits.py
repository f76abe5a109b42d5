"""The limits that several files share."""

# Of results, of numbers in texts and of the values of expressions.
LARGEST = 65535

# Of rows and of columns.
MOST_VALUES = 8
