"""What expressions, tests and statements of modules mean, and which changes they make."""

from heldparts.forms import name_of


def value_of(expression, values, number):
    """The value of an expression, where the cells have these values and the input is this number."""
    if isinstance(expression, int):
        return expression
    word = expression[0]
    if word == "cell":
        return values[expression[1]]
    if word == "input":
        return number
    if word == "pick":
        return value_of(expression[2] if truth_of(expression[1], values, number) else expression[3], values, number)
    left, right = value_of(expression[1], values, number), value_of(expression[2], values, number)
    if word == "plus":
        return left + right
    return left - right if word == "minus" else left * right


def truth_of(test, values, number):
    """Whether a test holds, where the cells have these values and the input is this number."""
    word = test[0]
    if word == "not":
        return not truth_of(test[1], values, number)
    if word == "and":
        return truth_of(test[1], values, number) and truth_of(test[2], values, number)
    left, right = value_of(test[1], values, number), value_of(test[2], values, number)
    return left < right if word == "less" else left == right


def steps_of(body, sizes, values, number):
    """The steps that statements make, `(writes, after, handle)`; a release is one that writes nothing.

    The values are changed to those that the cells have behind these steps.
    """
    steps = []
    for statement in body:
        word = statement[0]
        if word == "put":
            writes = tuple([(cell, value_of(part, values, number) % sizes[cell]) for cell, part in statement[1]])
            for cell, value in writes:
                values[cell] = value
            steps.append((writes, statement[2], statement[3]))
        elif word == "if":
            chosen = statement[2] if truth_of(statement[1], values, number) else statement[3]
            steps = steps + steps_of(chosen, sizes, values, number)
        else:
            steps.append(((), (), statement[1]))
    return steps


class Course:
    """Changes that are made one after another, what they stand behind, and what the handles hold then."""

    def __init__(self, lasts, holding, made):
        self.lasts = lasts
        self.holding = holding
        self.made = made
        self.changes = []
        self.ties = []

    def follow(self, steps):
        """Make the changes of some steps, where `lasts` has the last one of each row that is not empty."""
        for writes, after, handle in steps:
            if len(writes) == 0:
                self.holding.pop(handle, None)
                continue
            name = name_of(self.made)
            self.made = self.made + 1
            ends = [self.lasts[cell] for cell, _ in writes if cell in self.lasts]
            ends = ends + [self.holding[other] for other in after if other in self.holding]
            self.ties.extend([(name, other) for other in ends])
            self.changes.append((name, writes))
            for cell, _ in writes:
                self.lasts[cell] = name
            if handle is not None:
                self.holding[handle] = name
