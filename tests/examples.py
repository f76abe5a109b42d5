"""What several tests share: short ways to write lots and talks, and things by chance."""

import random

from splittalk.errors import BadText
from splittalk.program import read_program
from splittalk.ratio import Ratio
from splittalk.table import Table
from splittalk.talk import End, Say


def ratio(text):
    """The Ratio that a text such as 1/2 writes."""
    num, _, den = text.partition("/")
    return Ratio(int(num), int(den or "1"))


def lots(*texts):
    """A list of lists of lots, one for each text such as 1/2 0 1/2."""
    return [[ratio(word) for word in text.split()] for text in texts]


def say(person, texts, parts):
    return Say(person, lots(*texts), parts)


def ends(many):
    return [End() for _ in range(many)]


def by(person, said):
    """A message with which each value surely says a number, and ends behind it."""
    return surely(person, said, ends(max(said) + 1))


def surely(person, said, parts):
    """A message with which each value surely says a number."""
    made = [[Ratio(int(k == number)) for k in range(len(parts))] for number in said]
    return Say(person, made, parts)


def deep(many, table):
    """A talk of so many messages, each with a way to an end and a way on."""
    talk = End()
    for k in range(many):
        person = 1 + k % 2
        values = len(table.rows) if person == 1 else len(table.rows[0])
        talk = Say(person, lots("1/3 2/3") * values, [End(), talk])
    return talk


def some_tables(many, most=4, results=4, seed=1):
    """Tables by chance, the same ones whenever they are asked for."""
    chance = random.Random(seed)
    made = []
    for _ in range(many):
        rows, columns = chance.randint(1, most), chance.randint(1, most)
        last = chance.randint(0, results - 1)
        made.append(Table([[chance.randint(0, last) for _ in range(columns)] for _ in range(rows)]))
    return made


def some_talk(chance, table, deepest=3):
    """A talk by chance that fits a table."""
    if deepest == 0 or chance.random() < 0.2:
        return End()
    person = chance.choice((1, 2))
    values = len(table.rows) if person == 1 else len(table.rows[0])
    many = chance.randint(1, 3)
    made = []
    for _ in range(values):
        weights = [chance.choice((0, 0, 1, 2, 3)) for _ in range(many)]
        weights[chance.randrange(many)] += 1
        made.append([Ratio(weight, sum(weights)) for weight in weights])
    return Say(person, made, [some_talk(chance, table, deepest - 1) for _ in range(many)])


def outline(talk):
    """All that a talk is, as plain values, to see whether it has changed."""
    if isinstance(talk, End):
        return "end"
    told = [[(lot.num, lot.den) for lot in row] for row in talk.lots]
    return talk.person, told, [outline(part) for part in talk.parts]


def groups_by_ties(lines):
    """The groups of a dict of lines, worked out as point 5 tells: by chains of ties."""
    hang = {(a, b): any(x == y for x, y in zip(lines[a], lines[b])) for a in lines for b in lines}
    for k in lines:
        for a in lines:
            for b in lines:
                hang[a, b] = hang[a, b] or (hang[a, k] and hang[k, b])
    found = []
    for a in sorted(lines):
        group = tuple(b for b in sorted(lines) if hang[a, b])
        if group not in found:
            found.append(group)
    return found


def rows_by_ties(table, part):
    return groups_by_ties({row: [table.rows[row][k] for k in part[1]] for row in part[0]})


def columns_by_ties(table, part):
    return groups_by_ties({column: [table.rows[k][column] for k in part[0]] for column in part[1]})


def number(value):
    return ("number", value)


def at_of(text):
    """The at of the BadText that reading a program raises, or None."""
    try:
        read_program(text)
    except BadText as error:
        return error.at
    return None


def some_value(chance, names, deepest=5):
    """The words of an expression by chance."""
    if deepest == 1 or chance.random() < 0.5:
        return [chance.choice([*names, "0", "1", "2", "3", "65535", "7"])]
    word = chance.choice(("+", "-", "*", "/", "mod", "<", "="))
    return [word, *some_value(chance, names, deepest - 1), *some_value(chance, names, deepest - 1)]


def some_block(chance, names, said, depth=0):
    """The words of statements by chance; said is a list of the messages so far."""
    words = []
    for _ in range(chance.randint(0, 3 if depth else 8)):
        kind = chance.choice(("set", "say", "say", "if"))
        if kind == "if" and depth < 4:
            words += ["if", *some_value(chance, names), *some_block(chance, names, said, depth + 1)]
            other = some_block(chance, names, said, depth + 1)
            words += ["else", *other, "end"] if other else ["end"]
        elif kind == "set" and names:
            words += ["set", chance.choice(names), *some_value(chance, names)]
        elif kind == "say" and names and len(said) < 6:
            said.append(kind)
            words += [chance.choice(("first", "second")), chance.choice(names)]
            words += [str(chance.randint(1, 4)), str(chance.randint(1, 8))]
            words += some_value(chance, [*names, "own", "own", "lot"])
    return words


def some_program_words(chance, most=8):
    """The words of a program by chance."""
    words = ["rows", str(chance.randint(1, most)), "columns", str(chance.randint(1, most))]
    names = chance.sample(["x", "y", "z", "abcdefgh", "q"], chance.choice((0, 1, 2, 2, 3, 4)))
    for name in names:
        words += ["var", name, str(chance.choice((1, 2, 3, 4, 5, 65535)))]
    return words + some_block(chance, names, [])
