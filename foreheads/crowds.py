"""Sets of crowds, told by tables that go round in both numbers from some starts on."""

from math import lcm

from foreheads.checks import is_crowd, is_integer, is_sequence
from foreheads.errors import InvalidCrowds

# The pairs of signs, of a crowd in one set and in another one, that put it into the joined set.
IN_BOTH = ("++",)
IN_EITHER = ("++", "+-", "-+")
IN_FIRST = ("+-",)
IN_ONE = ("+-", "-+")


class Crowds:
    """A set of crowds; it keeps the least table that tells it."""

    def __init__(self, starts, periods, rows):
        if not _are_two_from(0, starts):
            raise InvalidCrowds("starts")
        if not _are_two_from(1, periods):
            raise InvalidCrowds("periods")
        if not _are_rows(rows, starts[0] + periods[0], starts[1] + periods[1]):
            raise InvalidCrowds("rows")
        down, step_down = _least_round(rows, starts[0])
        kept = rows[:down + step_down]
        columns = ["".join(column) for column in zip(*kept)]
        across, step_across = _least_round(columns, starts[1])
        self.starts = (down, across)
        self.periods = (step_down, step_across)
        self.rows = tuple([row[:across + step_across] for row in kept])

    @classmethod
    def nothing(cls):
        """The set without any crowd."""
        return cls((0, 0), (1, 1), ("-",))

    @classmethod
    def every(cls):
        """The set of all crowds."""
        return cls((0, 0), (1, 1), ("+",))

    @classmethod
    def of(cls, crowds):
        """The set of just the crowds of a sequence."""
        if not is_sequence(crowds) or not all([is_crowd(crowd) for crowd in crowds]):
            raise InvalidCrowds("crowds")
        height = max([int(crowd[0]) + 1 for crowd in crowds], default=0)
        width = max([int(crowd[1]) + 1 for crowd in crowds], default=0)
        table = [["-"] * (width + 1) for _ in range(height + 1)]
        for marked, plain in crowds:
            table[marked][plain] = "+"
        return cls((height, width), (1, 1), ["".join(row) for row in table])

    @classmethod
    def at_least(cls, kind, number):
        """The set of the crowds with at least so many people of the kind."""
        starts, periods, rows = _striped(kind, number, "-" * number + "+")
        return cls(starts, periods, rows)

    @classmethod
    def leaving(cls, kind, rest, period):
        """The set of the crowds whose number of people of the kind leaves the rest."""
        signs = ["+" if (at - rest) % period == 0 else "-" for at in range(period)]
        starts, periods, rows = _striped(kind, 0, "".join(signs))
        return cls(starts, periods, rows)

    @property
    def least(self):
        """The least crowd of the set, or None."""
        best = None
        for marked, row in enumerate(self.rows):
            plain = row.find("+")
            # Of the crowds with as many people the one with fewer marked people, which came first, is the lesser.
            if plain >= 0 and (best is None or marked + plain < best[0] + best[1]):
                best = (marked, plain)
        return best

    @property
    def size(self):
        """How many crowds are in the set, or None for endlessly many."""
        down, across = self.starts
        many = sum([row.count("+") for row in self.rows])
        once = sum([row[:across].count("+") for row in self.rows[:down]])
        # What stands behind the starts comes again without end.
        return many if many == once else None

    def marked_in(self, number):
        """The numbers of marked people of the crowds of the set with so many people."""
        return tuple([marked for marked in range(number + 1) if (marked, number - marked) in self])

    def beside(self, kind):
        """The crowds that become one of this set if somebody of the kind has the other kind."""
        down, across = self.starts
        if kind == "marked":
            rows = ["-" * len(self.rows[0])] + [row[1:] + row[across] for row in self.rows]
            return Crowds((down + 1, across), self.periods, rows)
        rows = ["-" + row for row in self.rows[1:] + self.rows[down:down + 1]]
        return Crowds((down, across + 1), self.periods, rows)

    def __and__(self, other):
        if not isinstance(other, Crowds):
            return NotImplemented
        return _joined(self, other, IN_BOTH)

    def __or__(self, other):
        if not isinstance(other, Crowds):
            return NotImplemented
        return _joined(self, other, IN_EITHER)

    def __sub__(self, other):
        if not isinstance(other, Crowds):
            return NotImplemented
        return _joined(self, other, IN_FIRST)

    def __xor__(self, other):
        if not isinstance(other, Crowds):
            return NotImplemented
        return _joined(self, other, IN_ONE)

    def __invert__(self):
        return Crowds(self.starts, self.periods, [_turned(row) for row in self.rows])

    def __le__(self, other):
        if not isinstance(other, Crowds):
            return NotImplemented
        return not bool(self - other)

    def __lt__(self, other):
        if not isinstance(other, Crowds):
            return NotImplemented
        return self <= other and self != other

    def __ge__(self, other):
        if not isinstance(other, Crowds):
            return NotImplemented
        return not bool(other - self)

    def __gt__(self, other):
        if not isinstance(other, Crowds):
            return NotImplemented
        return other <= self and self != other

    def __eq__(self, other):
        if not isinstance(other, Crowds):
            return False
        # There is one least table for each set.
        return self.starts == other.starts and self.periods == other.periods and self.rows == other.rows

    def __contains__(self, x):
        if not is_crowd(x):
            return False
        row = self.rows[_place(x[0], self.starts[0], self.periods[0])]
        return row[_place(x[1], self.starts[1], self.periods[1])] == "+"

    def __bool__(self):
        return any(["+" in row for row in self.rows])

    def __str__(self):
        return f"[{_spaced(self.starts)} {_spaced(self.periods)}: {_spaced(self.rows)}]"


def joined_bits(sign, ones, others):
    """The bits of two sets that are joined by a sign; each bit tells whether something is in the set."""
    if sign == "&":
        return ones & others
    if sign == "|":
        return ones | others
    if sign == "^":
        return ones ^ others
    return ones & ~others


def _are_two_from(lowest, values):
    """Whether any value is a list or tuple of two integers that are not below the lowest one."""
    if not is_sequence(values) or len(values) != 2:
        return False
    return all([is_integer(value) and value >= lowest for value in values])


def _are_rows(rows, height, width):
    """Whether any value is a list or tuple of so many strings of so many signs."""
    if not is_sequence(rows) or len(rows) != height:
        return False
    return all([isinstance(row, str) and _are_signs(row, width) for row in rows])


def _are_signs(row, width):
    return len(row) == width and row.count("+") + row.count("-") == width


def _least_round(parts, start):
    """The least start and period of what goes round in its last parts, from the start to the end."""
    period = len(parts) - start
    step = 1
    # The least period divides every other one.
    while period % step != 0 or parts[start + step:] != parts[start:start + period - step]:
        step = step + 1
    while start > 0 and parts[start - 1] == parts[start - 1 + step]:
        start = start - 1
    return start, step


def _place(number, start, period):
    """The row or column of a table that tells of a number of people."""
    if number < start:
        return number
    return start + (number - start) % period


def _striped(kind, start, signs):
    """The arguments for a set that hangs on the people of one kind alone."""
    period = len(signs) - start
    if kind == "marked":
        return (start, 0), (period, 1), list(signs)
    return (0, start), (1, period), [signs]


def _joined(one, other, wanted):
    """The set of the crowds whose signs in both sets make a pair that is wanted."""
    starts = [max(int(a), int(b)) for a, b in zip(one.starts, other.starts)]
    periods = [lcm(a, b) for a, b in zip(one.periods, other.periods)]
    ones = _spread(one, starts, periods)
    others = _spread(other, starts, periods)
    return Crowds(starts, periods, [_joined_row(row, against, wanted) for row, against in zip(ones, others)])


def _joined_row(row, against, wanted):
    return "".join(["+" if a + b in wanted else "-" for a, b in zip(row, against)])


def _turned(row):
    return "".join(["-" if sign == "+" else "+" for sign in row])


def _spread(crowds, starts, periods):
    """The rows of a table of the set with greater starts and multiples of the periods."""
    down = _places(crowds, 0, starts[0] + periods[0])
    across = _places(crowds, 1, starts[1] + periods[1])
    wide = ["".join([row[at] for at in across]) for row in crowds.rows]
    return [wide[at] for at in down]


def _places(crowds, side, many):
    """The rows (side 0) or columns (side 1) that tell of the first numbers."""
    return [_place(at, crowds.starts[side], crowds.periods[side]) for at in range(many)]


def _spaced(parts):
    return " ".join([str(part) for part in parts])
