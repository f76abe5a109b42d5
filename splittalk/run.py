"""The talks that programs tell."""

from splittalk.errors import TooLarge
from splittalk.expression import expression_value, remainder
from splittalk.ratio import Ratio
from splittalk.talk import talk_from

_MOST_NODES = 300


def talk_of(program):
    """The talk of a program."""
    many = {1: program.rows, 2: program.columns}
    sizes = {name: size for name, size in program.variables}
    plan = []
    left = [(program.block[::-1], {name: 0 for name in sizes})]
    while left:
        statements, values = left.pop()
        message, behind, values = _up_to_message(statements, values, sizes)
        if message is None:
            plan.append(None)
        else:
            _, person, name, choices, _, _ = message
            lots = [_lots(message, values, own) for own in range(many[person])]
            plan.append((person, lots, choices))
            # The last one is taken first, and the parts of the talk come in their order.
            for said in reversed(range(choices)):
                left.append((behind, {**values, name: remainder(said, sizes[name])}))
        if len(plan) + len(left) > _MOST_NODES:
            raise TooLarge("nodes")
    return talk_from(plan)


def _up_to_message(statements, values, sizes):
    """Runs statements, the last one first, up to a message.

    Tells the message, or None, the statements behind it, and the values of the variables.
    """
    left = list(statements)
    now = {name: values[name] for name in values}
    while left:
        statement = left.pop()
        if statement[0] == "say":
            return statement, left, now
        if statement[0] == "set":
            _, name, expression = statement
            now[name] = remainder(expression_value(expression, now), sizes[name])
        else:
            _, test, then, otherwise = statement
            block = otherwise if expression_value(test, now) == 0 else then
            left.extend(block[::-1])
    return None, left, now


def _lots(message, values, own):
    """The lots of what a person says who has a value of its own."""
    _, _, _, choices, lots, expression = message
    told = [expression_value(expression, {**values, "own": own, "lot": lot}) for lot in range(lots)]
    said = [remainder(value, choices) for value in told]
    return [Ratio(said.count(choice), lots) for choice in range(choices)]
