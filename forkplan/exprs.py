"""Expressions and conditions over the boxes of a world."""


def worth(expression, boxes, standing):
    """The worth of an expression at a standing; it may be below 0."""
    return worth_by(expression, values_by_name(boxes, standing))


def holds(condition, boxes, standing):
    """Whether a condition holds at a standing."""
    return holds_by(condition, values_by_name(boxes, standing))


def names_in(thing):
    """The box names in an expression or a condition, from left to right, each as often as it stands."""
    if thing[0] == "box":
        return [thing[1]]
    names = []
    if thing[0] != "number":
        for part in thing[1:]:
            names.extend(names_in(part))
    return names


def values_by_name(boxes, standing):
    """A dict of the boxes' names with their values at a standing."""
    return dict(zip([name for name, size in boxes], standing))


def worth_by(expression, values):
    """The worth of an expression by a dict of values."""
    kind = expression[0]
    if kind == "number":
        return expression[1]
    if kind == "box":
        return values[expression[1]]
    one = worth_by(expression[1], values)
    other = worth_by(expression[2], values)
    return one + other if kind == "plus" else one - other


def holds_by(condition, values):
    """Whether a condition holds by a dict of values."""
    kind = condition[0]
    if kind == "yes":
        return True
    if kind == "not":
        return not holds_by(condition[1], values)
    if kind == "both":
        return holds_by(condition[1], values) and holds_by(condition[2], values)
    one = worth_by(condition[1], values)
    other = worth_by(condition[2], values)
    return one == other if kind == "same" else one < other
