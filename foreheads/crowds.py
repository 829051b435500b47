"""Sets of crowds, told by tables that go round in both numbers from some starts on."""

from math import lcm

from foreheads.checks import is_crowd, is_integer, is_sequence
from foreheads.errors import InvalidCrowds


class Crowds:
    """A set of crowds; it keeps the least table that tells it."""

    def __init__(self, starts, periods, rows):
        _check_table(starts, periods, rows)
        if len(rows) > 1 or len(rows[0]) > 1:
            starts, periods, rows = _least_table(starts, periods, rows, {row: row for row in rows})
        self.starts = tuple(starts)
        self.periods = tuple(periods)
        self.rows = tuple(rows)

    @classmethod
    def nothing(cls):
        """The set without any crowd."""
        return cls((0, 0), (1, 1), ("-",))

    @classmethod
    def every(cls):
        """The set of all crowds."""
        return cls((0, 0), (1, 1), ("+",))

    @classmethod
    def of(cls, crowds):
        """The set of just the crowds of a sequence."""
        if not is_sequence(crowds) or not all([is_crowd(crowd) for crowd in crowds]):
            raise InvalidCrowds("crowds")
        height = max([int(crowd[0]) + 1 for crowd in crowds], default=0)
        width = max([int(crowd[1]) + 1 for crowd in crowds], default=0)
        table = [["-"] * (width + 1) for _ in range(height + 1)]
        for marked, plain in crowds:
            table[marked][plain] = "+"
        return cls((height, width), (1, 1), ["".join(row) for row in table])

    @classmethod
    def at_least(cls, kind, number):
        """The set of the crowds with at least so many people of the kind."""
        return _striped(kind, number, "-" * number + "+")

    @classmethod
    def leaving(cls, kind, rest, period):
        """The set of the crowds whose number of people of the kind leaves the rest."""
        signs = ["+" if (at - rest) % period == 0 else "-" for at in range(period)]
        return _striped(kind, 0, "".join(signs))

    @property
    def least(self):
        """The least crowd of the set, or None."""
        best = None
        for marked, row in enumerate(self.rows):
            plain = row.find("+")
            # Of the crowds with as many people the one with fewer marked people, which came first, is the lesser.
            if plain >= 0 and (best is None or marked + plain < best[0] + best[1]):
                best = (marked, plain)
        return best

    @property
    def size(self):
        """How many crowds are in the set, or None for endlessly many."""
        down, across = self.starts
        many = sum([row.count("+") for row in self.rows])
        once = sum([row[:across].count("+") for row in self.rows[:down]])
        # What stands behind the starts comes again without end.
        return many if many == once else None

    def marked_in(self, number):
        """The numbers of marked people of the crowds of the set with so many people."""
        return tuple([marked for marked in range(number + 1) if (marked, number - marked) in self])

    def beside(self, kind):
        """The crowds that become one of this set if somebody of the kind has the other kind."""
        down, across = self.starts
        if kind == "marked":
            starts = (down + 1, across)
            rows = {row: row[1:] + row[across] for row in self.rows}
            # No row of the table is empty: this one is put ahead of all.
            rows[""] = "-" * len(self.rows[0])
            order = ("",) + self.rows
        else:
            starts = (down, across + 1)
            order = self.rows[1:] + self.rows[down:down + 1]
            rows = {row: "-" + row for row in order}
        table = _least_table(starts, self.periods, order, rows)
        return _told_by(*table)

    def __and__(self, other):
        if not isinstance(other, Crowds):
            return NotImplemented
        return _joined("&", self, other)

    def __or__(self, other):
        if not isinstance(other, Crowds):
            return NotImplemented
        return _joined("|", self, other)

    def __sub__(self, other):
        if not isinstance(other, Crowds):
            return NotImplemented
        return _joined("-", self, other)

    def __xor__(self, other):
        if not isinstance(other, Crowds):
            return NotImplemented
        return _joined("^", self, other)

    def __invert__(self):
        turned = " ".join(self.rows).translate(str.maketrans("+-", "-+"))
        return _told_by(self.starts, self.periods, tuple(turned.split(" ")))

    def __le__(self, other):
        if not isinstance(other, Crowds):
            return NotImplemented
        return _is_within(self, other)

    def __lt__(self, other):
        if not isinstance(other, Crowds):
            return NotImplemented
        return _is_within(self, other) and self != other

    def __ge__(self, other):
        if not isinstance(other, Crowds):
            return NotImplemented
        return _is_within(other, self)

    def __gt__(self, other):
        if not isinstance(other, Crowds):
            return NotImplemented
        return _is_within(other, self) and self != other

    def __eq__(self, other):
        if not isinstance(other, Crowds):
            return False
        # There is one least table for each set.
        return self.starts == other.starts and self.periods == other.periods and self.rows == other.rows

    def __contains__(self, x):
        if not is_crowd(x):
            return False
        row = self.rows[place_of(x[0], self.starts[0], self.periods[0])]
        return row[place_of(x[1], self.starts[1], self.periods[1])] == "+"

    def __bool__(self):
        return any(["+" in row for row in self.rows])

    def __str__(self):
        return f"[{_spaced(self.starts)} {_spaced(self.periods)}: {_spaced(self.rows)}]"


class Overlay:
    """The tables of two sets, brought to one size and laid upon one another."""

    def __init__(self, one, other):
        self.starts = tuple([max(int(a), int(b)) for a, b in zip(one.starts, other.starts)])
        self.periods = tuple([lcm(a, b) for a, b in zip(one.periods, other.periods)])
        height = self.starts[0] + self.periods[0]
        self.width = self.starts[1] + self.periods[1]
        # Rows are seldom all different: only the pairs that are, are made longer and looked at sign by sign.
        self.order = list(zip(_longer(one.rows, one.starts[0], height), _longer(other.rows, other.starts[0], height)))
        self.pairs = sorted(set(self.order))
        self.ones = _bits([_longer(row, one.starts[1], self.width) for row, _ in self.pairs])
        self.others = _bits([_longer(row, other.starts[1], self.width) for _, row in self.pairs])


def joined_bits(sign, ones, others):
    """The bits of two sets that are joined by a sign; each bit tells whether something is in the set."""
    if sign == "&":
        return ones & others
    if sign == "|":
        return ones | others
    if sign == "^":
        return ones ^ others
    return ones & ~others


def bits_of(crowds, starts, periods):
    """The crowds of a set by a table with these starts and periods, as an integer: the first sign is the lowest bit."""
    width = starts[1] + periods[1]
    rows = [_longer(row, crowds.starts[1], width) for row in crowds.rows]
    return _bits(_longer(rows, crowds.starts[0], starts[0] + periods[0]))


def crowds_of(bits, starts, periods):
    """The set with these bits, by a table with these starts and periods."""
    width = starts[1] + periods[1]
    signs = _signs(bits, width * (starts[0] + periods[0]))
    rows = [signs[at:at + width] for at in range(0, len(signs), width)]
    table = _least_table(starts, periods, rows, {row: row for row in rows})
    return _told_by(*table)


def _joined(sign, one, other):
    """The set that a sign makes of two sets."""
    overlay = Overlay(one, other)
    bits = joined_bits(sign, overlay.ones, overlay.others)
    width = overlay.width
    signs = _signs(bits, width * len(overlay.pairs))
    rows = {pair: signs[at * width:at * width + width] for at, pair in enumerate(overlay.pairs)}
    table = _least_table(overlay.starts, overlay.periods, overlay.order, rows)
    return _told_by(*table)


def _is_within(one, other):
    """Whether each crowd of a set is in another one."""
    overlay = Overlay(one, other)
    return joined_bits("-", overlay.ones, overlay.others) == 0


def _bits(rows):
    """The signs of all rows as one integer: the first sign is the lowest bit."""
    return int("".join(rows)[::-1].translate(str.maketrans("+-", "10")), 2)


def _signs(bits, many):
    """So many signs with these bits."""
    return f"{bits:b}".zfill(many)[::-1].translate(str.maketrans("10", "+-"))


def _longer(parts, start, many):
    """The first ones of parts that go round from the start on."""
    if len(parts) == many:
        return parts
    turn = parts[start:]
    return (parts + turn * (many // len(turn)))[:many]


def _least_table(starts, periods, order, rows):
    """The least table of the set of a table; the order tells each row by its key among the different rows."""
    width = starts[1] + periods[1]
    signs = "".join(rows.values())
    across, step_across = _least_round([signs[at::width] for at in range(width)], starts[1])
    kept = {key: row[:across + step_across] for key, row in rows.items()}
    found = [kept[key] for key in order]
    down, step_down = _least_round(found, starts[0])
    return (down, across), (step_down, step_across), tuple(found[:down + step_down])


def _told_by(starts, periods, rows):
    """The set whose least table this is known to be."""
    # The constructor takes nothing on trust: what needs no second look is put in place of a table of one sign.
    made = Crowds((0, 0), (1, 1), ("+",))
    made.starts = starts
    made.periods = periods
    made.rows = rows
    return made


def _check_table(starts, periods, rows):
    """Raises InvalidCrowds unless any values are the starts, periods and rows of a table."""
    if not _are_two_from(0, starts):
        raise InvalidCrowds("starts")
    if not _are_two_from(1, periods):
        raise InvalidCrowds("periods")
    if not _are_rows(rows, starts[0] + periods[0], starts[1] + periods[1]):
        raise InvalidCrowds("rows")


def _are_two_from(lowest, values):
    """Whether any value is a list or tuple of two integers that are not below the lowest one."""
    if not is_sequence(values) or len(values) != 2:
        return False
    first, second = values
    return is_integer(first) and is_integer(second) and first >= lowest and second >= lowest


def _are_rows(rows, height, width):
    """Whether any value is a list or tuple of so many strings of so many signs."""
    if not is_sequence(rows) or len(rows) != height:
        return False
    if not all([isinstance(row, str) and len(row) == width for row in rows]):
        return False
    return "".join(rows).strip("+-") == ""


def _least_round(parts, start):
    """The least start and period of what goes round in its last parts, from the start to the end."""
    period = len(parts) - start
    step = 1
    # The least period divides every other one.
    while period % step != 0 or parts[start + step:] != parts[start:start + period - step]:
        step = step + 1
    while start > 0 and parts[start - 1] == parts[start - 1 + step]:
        start = start - 1
    return start, step


def place_of(number, start, period):
    """The row or column of a table that tells of a number of people."""
    if number < start:
        return number
    return start + (number - start) % period


def _striped(kind, start, signs):
    """A set that hangs on the people of one kind alone; the signs have the least start and period."""
    period = len(signs) - start
    if kind == "marked":
        return _told_by((start, 0), (period, 1), tuple(signs))
    return _told_by((0, start), (1, period), (signs,))


def _spaced(parts):
    return " ".join([str(part) for part in parts])
