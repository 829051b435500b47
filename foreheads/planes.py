"""Planes: how things stand in all crowds at once."""

from foreheads.crowds import bits_of, crowds_of
from foreheads.sizes import set_of
from foreheads.standing import Standing


class Plane:
    """The ground of all crowds: a table that goes round in both numbers, from a start on with a period.

    The crowd (k, l) is the bit k * width + l; greater crowds have the bits of those from which they differ by periods.
    So the start must be late enough for each set that comes about here (`start_behind` and `start_where` tell one).
    """

    def __init__(self, start, period):
        self.start = start
        self.period = period
        self.width = start + period
        self.whole = (1 << self.width * self.width) - 1
        row = (1 << self.width) - 1
        self.first_column = self.whole // row
        self.start_column = self.first_column << start
        self.last_column = self.first_column << self.width - 1
        self.start_row = row << start * self.width

    def with_other_mark(self, kind, held):
        """The crowds in which somebody of the kind, by having the other kind, would make one of those held."""
        if kind == "marked":
            within = (held & ~self.first_column) << self.width - 1
            around = (held & self.start_column) << self.width + self.period - 1
            return (within | around) & self.whole
        held = held & ~self.last_column
        return held >> self.width - 1 | (held & self.start_row) << (self.period - 1) * self.width + 1

    def has(self, kind):
        """The crowds in which there is somebody of the kind."""
        return self.with_other_mark(kind, self.whole)

    def where_simple(self, saying):
        """The crowds in which a simple saying holds."""
        return self.bits(set_of(saying))

    def bits(self, crowds):
        """The crowds of a set."""
        return bits_of(crowds, (self.start, self.start), (self.period, self.period))

    def set_with(self, bits):
        """The set of the crowds with these bits."""
        return crowds_of(bits, (self.start, self.start), (self.period, self.period))

    def placed(self, goes, edges):
        """How things stand if a talk goes on in the crowds of a set, and the edges of another one are open."""
        return Standing(self, self.bits(goes), self.bits(edges))
