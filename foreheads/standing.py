"""How things stand: where a talk goes on and which edges are open, and what sayings and rows make of it."""

from foreheads.crowds import joined_bits
from foreheads.sayings import Common, Knows, Not, Pair, Silent, Sure


class Standing:
    """Where a talk goes on, and which edges are open, on a ground.

    Sets of crowds are integers here, with a bit for each crowd; an edge has the bit of its end with more marked people.
    A ground (a `Stretch` or a `Plane`) tells which bits there are (`whole`), where there is somebody of a kind (`has`),
    where a simple saying holds (`where_simple`), and which crowds become one of a set if somebody of a kind has the
    other kind instead (`with_other_mark`).
    """

    def __init__(self, ground, goes, edges):
        self.ground = ground
        self.goes = goes
        self.edges = edges

    def where(self, saying):
        """The crowds in which a saying holds (whatever they are where the talk does not go on)."""
        if isinstance(saying, Not):
            return self.all_but(self.where(saying.saying))
        if isinstance(saying, Pair):
            return joined_bits(saying.sign, self.where(saying.first), self.where(saying.second))
        if isinstance(saying, Knows):
            return self.where_known(saying.kind, self.where(saying.saying))
        if isinstance(saying, Common):
            return self.where_common(self.where(saying.saying))
        if isinstance(saying, Sure):
            return self.all_but(self.doubts(saying.kind))
        if isinstance(saying, Silent):
            return self.where_silent()
        return self.ground.where_simple(saying)

    def all_but(self, held):
        """All crowds but those held."""
        return self.ground.whole ^ held

    def between(self, held):
        """The edges between two of the crowds held."""
        return held & self.ground.with_other_mark("marked", held)

    def doubts(self, kind):
        """The crowds in which there are people of the kind, and they do not know their own mark."""
        return self.edges if kind == "marked" else self.ground.with_other_mark("plain", self.edges)

    def where_known(self, kind, held):
        """The crowds in which each person of the kind knows that it is one of those held."""
        misled = self.doubts(kind) & ~self.ground.with_other_mark(kind, held)
        return self.all_but(self.ground.has(kind)) | held & ~misled

    def where_common(self, held):
        """The crowds from which open edges lead to none but those held."""
        left = self.all_but(held)
        more = self.spread(left)
        while more != left:
            left = more
            more = self.spread(left)
        return self.all_but(left)

    def spread(self, held):
        """The crowds held, and those from which one open edge leads to one of them."""
        down = self.edges & self.ground.with_other_mark("marked", held)
        up = self.ground.with_other_mark("plain", self.edges & held)
        return held | down | up

    def where_silent(self):
        """The crowds in which nobody knows their own mark."""
        marked = self.ground.has("marked") & ~self.doubts("marked")
        plain = self.ground.has("plain") & ~self.doubts("plain")
        return self.all_but(marked | plain)

    def after_row(self, row):
        """How things stand behind a row that is no block, told by its head: rows are defined in a later module."""
        if row.HEAD == "step":
            return self.with_edges(self.between(self.where_silent()))
        held = self.where(row.saying)
        if row.HEAD == "say":
            return self.part(held)
        if row.HEAD == "hands":
            return self.after_hands(held)
        return self.with_edges(~(held ^ self.ground.with_other_mark("marked", held)))

    def after_hands(self, held):
        """How things stand when all who know that it is one of the crowds held have lifted a hand."""
        # At an open edge the person who holds both ends possible knows it, or not, at either end. This person can tell
        # the ends apart by the others who are marked, or by those who are plain, if they know at one end alone.
        ground = self.ground
        knowing = self.between(held)
        marked = knowing ^ ground.with_other_mark("marked", self.where_known("marked", held))
        plain = knowing ^ self.where_known("plain", held)
        others_marked = ground.with_other_mark("marked", ground.has("marked"))
        return self.with_edges(~(marked & others_marked | plain & ground.has("plain")))

    def part(self, held):
        """How things stand if the talk goes on in the crowds held alone."""
        return Standing(self.ground, self.goes & held, self.edges & self.between(held))

    def with_edges(self, kept):
        """How things stand if no edges but those kept stay open."""
        return Standing(self.ground, self.goes, self.edges & kept)

    def joined(self, other):
        """How things stand if some crowds have gone one way and the others another one."""
        return Standing(self.ground, self.goes | other.goes, self.edges | other.edges)


class Course:
    """Rows that are done in all crowds at once, and the crowds that came to each or stopped at it, by its number."""

    def __init__(self):
        self.arrived = {}
        self.stopped = {}

    def through(self, standing, rows, at):
        """How things stand behind rows, the first of which has a number."""
        for row in rows:
            standing = self.through_one(standing, row, at)
            at = at + row.span
        return standing

    def through_one(self, standing, row, at):
        """How things stand behind the row with a number."""
        self.arrived[at] = self.arrived.get(at, 0) | standing.goes
        if row.HEAD == "if":
            return self.through_if(standing, row, at)
        if row.HEAD == "times":
            for _ in range(row.many):
                standing = self.through(standing, row.rows, at + 1)
            return standing
        behind = standing.after_row(row)
        self.stopped[at] = self.stopped.get(at, 0) | standing.goes & ~behind.goes
        return behind

    def through_if(self, standing, row, at):
        """How things stand behind the `If` with a number, when both parts have gone their own ways."""
        held = standing.where(row.saying)
        there = self.through(standing.part(held), row.rows, at + 1)
        others_at = at + 1 + sum([part.span for part in row.rows])
        elsewhere = self.through(standing.part(standing.all_but(held)), row.others, others_at)
        return there.joined(elsewhere)
