"""What several tests draw on: chance expressions from a seed, and their worth reckoned another way."""


def chance_expression(chance, names, depth):
    kind = chance.choice(["number", "box", "plus", "less", "plus", "less"] if depth else ["number", "box"])
    if kind == "number":
        return (kind, chance.randrange(10))
    if kind == "box":
        return (kind, chance.choice(names))
    return (kind, chance_expression(chance, names, depth - 1), chance_expression(chance, names, depth - 1))


def chance_condition(chance, names, depth):
    kind = chance.choice(["yes", "same", "under", "not", "both", "not", "both"] if depth else ["yes", "same", "under"])
    if kind == "yes":
        return (kind,)
    if kind == "not":
        return (kind, chance_condition(chance, names, depth - 1))
    if kind == "both":
        return (kind, chance_condition(chance, names, depth - 1), chance_condition(chance, names, depth - 1))
    return (kind, chance_expression(chance, names, 2), chance_expression(chance, names, 2))


def as_python(thing):
    """An expression or a condition in Python's own signs, for a reckoning that the program has no part in."""
    signs = {"plus": "+", "less": "-", "same": "==", "under": "<", "both": "and"}
    if thing[0] == "yes":
        return "True"
    if thing[0] == "number":
        return str(thing[1])
    if thing[0] == "box":
        return f"at[{thing[1]!r}]"
    if thing[0] == "not":
        return f"(not {as_python(thing[1])})"
    return f"({as_python(thing[1])} {signs[thing[0]]} {as_python(thing[2])})"


def reckoned(thing, boxes, standing):
    return eval(as_python(thing), {"at": {box[0]: value for box, value in zip(boxes, standing)}})


def nested(kind, leaf, depth):
    """A thing of so many of that kind within one another, both sides alike."""
    for _ in range(depth):
        leaf = (kind, leaf, leaf)
    return leaf
