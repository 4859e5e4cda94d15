"""Modules: programs that make changes, and the stores that rows of their operations lead to."""

from heldparts.errors import NoModule
from heldparts.grammar import are_handles, are_operations, are_sized_cells, is_body, is_promise
from heldparts.meanings import Course, steps_of, truth_of, value_of
from heldparts.stores import Store


def check_module(cells, handles, operations, promise):
    """Raise an error if these are not the parts of a module."""
    if not are_sized_cells(cells):
        raise NoModule("cells")
    if not are_handles(handles):
        raise NoModule("handles")
    if not are_operations(operations):
        raise NoModule("operations")
    known = {cell: True for cell, _, _ in cells}
    for index, (_, _, body) in enumerate(operations):
        if not is_body(body, known, handles):
            raise NoModule(index)
    if not is_promise(promise, known):
        raise NoModule("promise")


class Module:
    """A program: its cells and handles, its operations, and what it promises of its cells after a failure."""

    def __init__(self, cells, handles, operations, promise):
        check_module(cells, handles, operations, promise)
        self.cells = cells
        self.handles = handles
        self.operations = operations
        self.promise = promise
        self.start = tuple([(cell, first) for cell, _, first in cells])
        self.inputs = tuple([(name, number) for name, size, _ in operations for number in range(size)])
        self.sizes = {cell: size for cell, size, _ in cells}
        self.bodies = {name: body for name, _, body in operations}

    def __eq__(self, other):
        if not isinstance(other, Module):
            return False
        if self.cells != other.cells or self.handles != other.handles:
            return False
        return self.operations == other.operations and self.promise == other.promise

    def evaluate(self, expression, content, number=0):
        """The value of an expression on a content."""
        return value_of(expression, {cell: value for cell, value in content}, number)

    def holds(self, test, content, number=0):
        """Whether a test holds on a content."""
        return truth_of(test, {cell: value for cell, value in content}, number)


def course_of(module, row):
    """The changes that a row of operations makes if nothing is ever written."""
    values = {cell: value for cell, value in module.start}
    course = Course({}, {}, 0)
    for name, number in row:
        course.follow(steps_of(module.bodies[name], module.sizes, values, number))
    return course


def history(module, *row):
    """The store that a row of operations leads to if nothing is ever written."""
    course = course_of(module, row)
    return Store(module.start, tuple(course.changes), tuple(course.ties))


def held(module, *row):
    """What the handles hold after a row of operations, as `(handle, name)`, ascending."""
    return tuple(sorted(course_of(module, row).holding.items()))
