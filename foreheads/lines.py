"""Lines: how things stand in all crowds with one number of people."""

from foreheads.checks import is_integer, is_number, is_sequence
from foreheads.errors import InvalidLine
from foreheads.sayings import AtLeast, Fact
from foreheads.standing import Course, Standing


class Line:
    """Where a talk goes on, and which edges are open, in the crowds with so many people."""

    def __init__(self, people, goes=None, edges=None):
        if not is_number(people):
            raise InvalidLine("people")
        if goes is None:
            goes = list(range(people + 1))
        elif not _are_from(goes, 0, people):
            raise InvalidLine("goes")
        inner = _numbers(_edges_between(_bits(goes)))
        if edges is None:
            edges = inner
        elif not _are_from(edges, 1, people) or not all([edge in inner for edge in edges]):
            raise InvalidLine("edges")
        self.people = people
        self.goes = tuple(sorted(set(goes)))
        self.edges = tuple(sorted(set(edges)))

    def where(self, saying):
        """The crowds, of those in which the talk goes on, in which a saying holds."""
        standing = self.in_bits()
        return _numbers(standing.goes & standing.where(saying))

    def after(self, talk):
        """The line behind a talk."""
        standing = Course().through(self.in_bits(), talk.rows, 0)
        return Line(self.people, _numbers(standing.goes), _numbers(standing.edges))

    def in_bits(self):
        """The same in bits."""
        return Standing(Stretch(self.people, 0, self.people, 1), _bits(self.goes), _bits(self.edges))

    def __eq__(self, other):
        if not isinstance(other, Line):
            return False
        return self.people == other.people and self.goes == other.goes and self.edges == other.edges


class Stretch:
    """The ground of the crowds of a line from a lowest to a highest one. Each crowd has `ways` bits side by side, one
    for each way in which things stand, so that all these ways are looked at together."""

    def __init__(self, people, lowest, highest, ways):
        self.people = people
        self.lowest = lowest
        self.highest = highest
        self.ways = ways
        self.each = (1 << ways) - 1
        self.whole = (1 << (highest - lowest + 1) * ways) - 1

    def with_other_mark(self, kind, held):
        """The crowds in which somebody of the kind, by having the other kind, would make one of those held."""
        return held << self.ways & self.whole if kind == "marked" else held >> self.ways

    def has(self, kind):
        """The crowds in which there is somebody of the kind."""
        if kind == "marked":
            return self.whole & ~self.each if self.lowest == 0 else self.whole
        return self.whole >> self.ways if self.highest == self.people else self.whole

    def where_simple(self, saying):
        """The crowds in which a simple saying holds."""
        found = 0
        for at in range(self.highest - self.lowest + 1):
            if _fits(saying, self.lowest + at, self.people - self.lowest - at):
                found = found | self.each << at * self.ways
        return found


def _are_from(values, lowest, highest):
    """Whether any value is a sequence of integers within these bounds."""
    if not is_sequence(values):
        return False
    return all([is_integer(value) and lowest <= value <= highest for value in values])


def _edges_between(crowds):
    """The edges between two of the crowds, in bits."""
    return crowds & crowds << 1


def _bits(numbers):
    """The integer with these bits."""
    bits = 0
    for number in numbers:
        bits = bits | 1 << number
    return bits


def _numbers(bits):
    """The numbers of the bits of an integer, ascending."""
    return tuple([number for number in range(bits.bit_length()) if bits >> number & 1])


def _fits(saying, marked, plain):
    """Whether a simple saying holds in a crowd."""
    if isinstance(saying, Fact):
        return (marked, plain) in saying.crowds
    many = marked if saying.kind == "marked" else plain
    if isinstance(saying, AtLeast):
        return many >= saying.number
    return many % saying.period == saying.rest
