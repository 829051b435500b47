"""Lines: how things stand in all crowds with one number of people."""

from foreheads.checks import is_integer, is_number, is_sequence
from foreheads.crowds import joined_bits
from foreheads.errors import InvalidLine
from foreheads.sayings import AtLeast, Common, Fact, Knows, Not, Pair, Silent, Sure


class Line:
    """Where a talk goes on, and which edges are open, in the crowds with so many people."""

    def __init__(self, people, goes=None, edges=None):
        if not is_number(people):
            raise InvalidLine("people")
        if goes is None:
            goes = list(range(people + 1))
        elif not _are_from(goes, 0, people):
            raise InvalidLine("goes")
        inner = _numbers(_edges_between(_bits(goes)))
        if edges is None:
            edges = inner
        elif not _are_from(edges, 1, people) or not all([edge in inner for edge in edges]):
            raise InvalidLine("edges")
        self.people = people
        self.goes = tuple(sorted(set(goes)))
        self.edges = tuple(sorted(set(edges)))

    def where(self, saying):
        """The crowds, of those in which the talk goes on, in which a saying holds."""
        standing = self.in_bits()
        return _numbers(standing.goes & standing.where(saying))

    def after(self, talk):
        """The line behind a talk."""
        standing = self.in_bits().after(talk.rows)
        return Line(self.people, _numbers(standing.goes), _numbers(standing.edges))

    def in_bits(self):
        """The same in bits."""
        return Standing(self.people, _bits(self.goes), _bits(self.edges))

    def __eq__(self, other):
        if not isinstance(other, Line):
            return False
        return self.people == other.people and self.goes == other.goes and self.edges == other.edges


class Standing:
    """How things stand on a line, as a `Line` tells it, but each set of numbers is an integer with these bits."""

    def __init__(self, people, goes, edges):
        self.people = people
        self.goes = goes
        self.edges = edges
        self.whole = (1 << people + 1) - 1

    def where(self, saying):
        """The crowds in which a saying holds (whatever they are where the talk does not go on)."""
        if isinstance(saying, Not):
            return self.whole ^ self.where(saying.saying)
        if isinstance(saying, Pair):
            return joined_bits(saying.sign, self.where(saying.first), self.where(saying.second))
        if isinstance(saying, Knows):
            return self.where_known(saying.kind, self.where(saying.saying))
        if isinstance(saying, Common):
            return self.where_common(self.where(saying.saying))
        if isinstance(saying, Sure):
            return self.whole ^ self.doubts(saying.kind)
        if isinstance(saying, Silent):
            return self.where_silent()
        if isinstance(saying, Fact):
            return _bits(saying.crowds.marked_in(self.people))
        counts = [marked if saying.kind == "marked" else self.people - marked for marked in range(self.people + 1)]
        return _bits([marked for marked, many in enumerate(counts) if _fits(saying, many)])

    def with_other_mark(self, kind, held):
        """The crowds in which somebody of the kind, by having the other kind, would make one of those held."""
        return held << 1 & self.whole if kind == "marked" else held >> 1

    def has(self, kind):
        """The crowds in which there is somebody of the kind."""
        return self.with_other_mark(kind, self.whole)

    def doubts(self, kind):
        """The crowds in which there are people of the kind, and they do not know their own mark."""
        return self.edges if kind == "marked" else self.edges >> 1

    def where_known(self, kind, held):
        """The crowds in which each person of the kind knows that it is one of those held."""
        misled = self.doubts(kind) & ~self.with_other_mark(kind, held)
        return self.whole & ~self.has(kind) | held & ~misled

    def where_common(self, held):
        """The crowds from which open edges lead to none but those held."""
        left = self.whole ^ held
        more = 0
        while more != left:
            more = left
            left = left | left << 1 & self.edges | (left & self.edges) >> 1
        return self.whole ^ left

    def where_silent(self):
        """The crowds in which nobody knows their own mark."""
        marked = ~self.has("marked") | self.doubts("marked")
        plain = ~self.has("plain") | self.doubts("plain")
        return self.whole & marked & plain

    def after(self, rows):
        """How things stand behind rows that are done one after another."""
        standing = self
        for row in rows:
            standing = standing.after_row(row)
        return standing

    def after_row(self, row):
        """How things stand behind a row; rows are told by their heads, as their classes build on this module."""
        if row.HEAD == "times":
            return self.after(row.rows * row.many)
        if row.HEAD == "step":
            return self.after_step()
        held = self.where(row.saying)
        if row.HEAD == "say":
            return self.part(held)
        if row.HEAD == "ask":
            return self.with_edges(~(held ^ held << 1))
        if row.HEAD == "hands":
            return self.after_hands(held)
        there = self.part(held).after(row.rows)
        elsewhere = self.part(~held).after(row.others)
        return Standing(self.people, there.goes | elsewhere.goes, there.edges | elsewhere.edges)

    def part(self, held):
        """How things stand if the talk goes on in the crowds held alone."""
        return Standing(self.people, self.goes & held, self.edges & _edges_between(held))

    def with_edges(self, kept):
        """How things stand if no edges but those kept stay open."""
        return Standing(self.people, self.goes, self.edges & kept)

    def after_step(self):
        """How things stand when all who know their own mark have stepped forward."""
        return self.with_edges(_edges_between(self.where_silent()))

    def after_hands(self, held):
        """How things stand when all who know that it is one of the crowds held have lifted a hand."""
        # At an open edge the person who holds both ends possible knows it, or not, at either end. This person can tell
        # the ends apart by the others who are marked, or by those who are plain, if they know at one end alone.
        knowing = _edges_between(held)
        marked = knowing ^ self.where_known("marked", held) << 1
        plain = knowing ^ self.where_known("plain", held)
        return self.with_edges(~(marked & self.has("marked") << 1 | plain & self.has("plain")))


def _are_from(values, lowest, highest):
    """Whether any value is a sequence of integers within these bounds."""
    if not is_sequence(values):
        return False
    return all([is_integer(value) and lowest <= value <= highest for value in values])


def _edges_between(crowds):
    """The edges between two of the crowds, in bits."""
    return crowds & crowds << 1


def _bits(numbers):
    """The integer with these bits."""
    bits = 0
    for number in numbers:
        bits = bits | 1 << number
    return bits


def _numbers(bits):
    """The numbers of the bits of an integer, ascending."""
    return tuple([number for number in range(bits.bit_length()) if bits >> number & 1])


def _fits(saying, many):
    """Whether a simple saying about the number of people of a kind holds for a number."""
    if isinstance(saying, AtLeast):
        return many >= saying.number
    return many % saying.period == saying.rest
