"""Programs: talks that are written as texts."""

from splittalk.errors import BadText
from splittalk.expression import expression_text, read_expression
from splittalk.limits import LARGEST, MOST_VALUES
from splittalk.words import PERSONS, is_name, is_number, words_of

_MOST_VARIABLES = 4
_MOST_MESSAGES = 4
_MOST_LOTS = 8
# Of first and second together.
_MOST_SAYS = 6
# Of an if.
_DEEPEST = 4


class Program:
    """The data of a program."""

    def __init__(self, rows, columns, variables, block):
        self.rows = rows
        self.columns = columns
        self.variables = _kept(variables)
        self.block = _kept(block)

    def __eq__(self, other):
        return (
            isinstance(other, Program)
            and self.rows == other.rows and self.columns == other.columns
            and self.variables == other.variables and self.block == other.block
        )


def _kept(data):
    """A copy of data in which each list, at every depth, is a tuple."""
    if isinstance(data, (list, tuple)):
        return tuple([_kept(part) for part in data])
    return data


class Reader:
    """How far the words of a program are read, and what limits the words that may follow."""

    def __init__(self, words):
        self.words = words
        self.at = 0
        self.variables = []
        self.says = 0

    def here(self):
        """The next word, or behind the last one the empty word, which fits nowhere."""
        return self.words[self.at] if self.at < len(self.words) else ""

    def take(self, fits):
        """The next word, which is the first wrong one unless it fits, and goes on behind it."""
        if not fits:
            raise BadText(self.at)
        word = self.here()
        self.at += 1
        return word

    def read_number(self, least, most):
        """A number from the least to the most one."""
        word = self.here()
        return int(self.take(is_number(word) and least <= int(word) <= most))

    def read_whole(self):
        """The program that all the words write."""
        self.take(self.here() == "rows")
        rows = self.read_number(1, MOST_VALUES)
        self.take(self.here() == "columns")
        columns = self.read_number(1, MOST_VALUES)
        while self.here() == "var" and len(self.variables) < _MOST_VARIABLES:
            self.read_variable()
        block = self.read_block(0)
        if self.at < len(self.words):
            raise BadText(self.at)
        return Program(rows, columns, self.variables, block)

    def read_variable(self):
        """Reads a variable and its size."""
        self.take(self.here() == "var")
        name = self.take(is_name(self.here()) and self.here() not in self.names())
        self.variables.append((name, self.read_number(1, LARGEST)))

    def names(self):
        """The names of the variables."""
        return [name for name, _ in self.variables]

    def read_block(self, depth):
        """The statements up to a word that begins none; the depth is that of the if around them."""
        statements = []
        while self.begins_statement(depth):
            statements.append(self.read_statement(depth))
        return tuple(statements)

    def begins_statement(self, depth):
        """Whether a statement in an if of a depth, or in none at the depth 0, may begin here."""
        word = self.here()
        if word == "if":
            return depth < _DEEPEST
        # All other statements need a variable.
        if len(self.variables) == 0:
            return False
        return word == "set" or (word in PERSONS and self.says < _MOST_SAYS)

    def read_statement(self, depth):
        """The statement that the next word begins."""
        word = self.take(True)
        if word == "if":
            return self.read_if(depth + 1)
        name = self.take(self.here() in self.names())
        if word == "set":
            return ("set", name, self.read_value(()))
        self.says += 1
        messages = self.read_number(1, _MOST_MESSAGES)
        lots = self.read_number(1, _MOST_LOTS)
        person = PERSONS.index(word) + 1
        return ("say", person, name, messages, lots, self.read_value(("own", "lot")))

    def read_if(self, depth):
        """The rest of an if of a depth."""
        test = self.read_value(())
        then = self.read_block(depth)
        otherwise = ()
        if self.here() == "else":
            # Where nothing can follow an else, it is the first wrong word itself.
            self.take(len(self.variables) > 0 or depth < _DEEPEST)
            otherwise = self.read_block(depth)
            if len(otherwise) == 0:
                raise BadText(self.at)
        self.take(self.here() == "end")
        return ("if", test, then, otherwise)

    def read_value(self, more):
        """An expression of the variables and of some more words."""
        expression, self.at = read_expression(self.words, self.at, [*self.names(), *more])
        return expression


def read_program(text):
    """The program that a text writes."""
    return Reader(words_of(text)).read_whole()


def program_text(program):
    """The one text of a program."""
    return " ".join([
        f"rows {program.rows} columns {program.columns}",
        *[f"var {name} {size}" for name, size in program.variables],
        *_texts(program.block),
    ])


def _texts(block):
    """The texts of the statements of a block."""
    return [_statement_text(statement) for statement in block]


def _statement_text(statement):
    """The text of a statement."""
    if statement[0] == "set":
        _, name, expression = statement
        return f"set {name} {expression_text(expression)}"
    if statement[0] == "say":
        _, person, name, messages, lots, expression = statement
        return f"{PERSONS[person - 1]} {name} {messages} {lots} {expression_text(expression)}"
    _, test, then, otherwise = statement
    behind = ["else", *_texts(otherwise)] if len(otherwise) > 0 else []
    return " ".join([f"if {expression_text(test)}", *_texts(then), *behind, "end"])
