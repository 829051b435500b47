"""Values that several tests pass: any values of DOC.md [1], and what of them is a number."""

import importlib
import inspect
import pkgutil

import foreheads
from foreheads.crowds import Crowds
from foreheads.lines import Line
from foreheads.sayings import AtLeast, Common, Knows, Silent
from foreheads.talks import Ask, If, Say, Step, Talk, Times


def nested(depth):
    """A list and a tuple in turns, nested so deep."""
    value = [3]
    for level in range(depth - 1):
        value = (value, level) if level % 2 else [value]
    return value


def any_values():
    """Values of every kind, new ones at each call."""
    return [
        -10 ** 30, -2, -1, 0, 1, 2, 7, 10 ** 30, True, False, None,
        "", "marked", "plain", "Marked", "marked ", "1", "+", "-", "+-", "silent", "[0 0 1 1: +]",
        Crowds.every(), Crowds.nothing(), Crowds.of([(1, 2)]),
        AtLeast("marked", 1), Silent(), Common(Knows("plain", Silent())), ~Silent(),
        Line(0), Line(2, [0, 1]), Say(Silent()), Step(), If(Silent(), [Step()], [Ask(Silent())]), Times(2, []),
        Talk(), Talk([Step()]), [Step()], (Say(Silent()), Times(1, [Step()])), [Step(), 1], [[Step()]], [Talk()],
        [], (), [0], (0,), [0, 1], (0, 1), (1, 1), [1, 1], (1, 0), (0, -1), (-1, 0), (True, 1), (1, False),
        (1, None), ("1", "2"), (0, 1, 2), [0, 1, 2], (1, (1,)), ["+"], ["+", "-"], ("marked",), ["marked"],
        [(1, 2)], ((1, 2), (3, 4)), [(1, 2), [3, 4]], [[1, 2]], [Crowds.every()], (Silent(), Silent()),
        nested(2), nested(5), nested(8),
    ]


def package_objects():
    """An object of each class of the package that can be made of some simple arguments, also of those not described."""
    found = []
    lists = ((), (["x"],), (["-", "+"],), (("x",),), ("marked",), (1,), ((1, 2),), (Silent(),), ("marked", Silent()))
    for part in pkgutil.iter_modules(foreheads.__path__):
        module = importlib.import_module(f"foreheads.{part.name}")
        for kind in vars(module).values():
            if inspect.isclass(kind) and kind.__module__ == module.__name__:
                for arguments in lists:
                    try:
                        found.append(kind(*arguments))
                    except Exception:
                        pass
    return found


def all_crowds(most):
    """All crowds with at most so many people, in their order."""
    return [(marked, people - marked) for people in range(most + 1) for marked in range(people + 1)]


def is_integer(value):
    return isinstance(value, int) and not isinstance(value, bool)


def is_number(value):
    return is_integer(value) and value >= 0


def is_crowd(value):
    return isinstance(value, tuple) and len(value) == 2 and all(is_number(part) for part in value)
