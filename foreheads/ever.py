"""Ever: whether two talks do the same whatever was said before."""

from foreheads.lines import Line, Stretch
from foreheads.sizes import common_period, greatest_start, sayings_in, sets_in
from foreheads.standing import Course, Standing
from foreheads.talks import Talk


def same(p, q):
    """Whether two talks do the same on each line, however it stands."""
    return parting_line(p, q) is None


def neutral(talk):
    """Whether a talk does nothing, whatever was said before."""
    return same(talk, Talk())


def parting_line(p, q):
    """A line with the fewest people on which two talks do not do the same, or None."""
    sets = sets_in(sayings_in(p.rows + q.rows))
    reached = max(int(reach_of(p)), int(reach_of(q)))
    # What is done to an edge hangs on no more crowds side by side than these.
    broadest = 2 * reached + 2
    ways = _ways(0)
    for people in range(2 * (greatest_start(sets) + reached + common_period(sets)) + 1):
        if ways.many < broadest and ways.many <= people:
            ways = _ways(people + 1)
        for lowest in range(people + 2 - ways.many):
            line = _parted(p, q, people, lowest, ways)
            if line is not None:
                return line
    return None


def reach_of(talk):
    """How far crowds and edges can be from an edge if what a talk does to it hangs on them."""
    return _reach(talk.rows)


def _reach(rows):
    return sum([_reach_of_one(row) for row in rows])


def _reach_of_one(row):
    if row.HEAD == "step":
        return 1
    if row.HEAD == "times":
        return row.many * _reach(row.rows)
    if row.HEAD == "hands":
        return row.saying.depth + 1
    if row.HEAD == "if":
        return row.saying.depth + max(int(_reach(row.rows)), int(_reach(row.others)))
    return row.saying.depth


class Ways:
    """All the ways in which so many crowds side by side can stand: for each two integers, with a bit for each crowd in
    which the talk goes on, and for each crowd to which an open edge leads from the one below it."""

    def __init__(self, many, pairs):
        self.many = many
        self.pairs = pairs
        self.goes = self.together(0)
        self.edges = self.together(1)

    def together(self, part):
        """The one or the other of all pairs together, crowd by crowd; the last pair has the lowest bit of each."""
        bits = ["1" if pair[part] >> at & 1 else "0" for at in reversed(range(self.many)) for pair in self.pairs]
        return int("".join(bits) or "0", 2)


def _ways(many):
    """All the ways in which so many crowds side by side can stand."""
    pairs = [(0, 0)]
    for at in range(many):
        bit = 1 << at
        gone = [(goes, edges) for goes, edges in pairs]
        closed = [(goes | bit, edges) for goes, edges in pairs]
        # The edge between two crowds can be open only if the talk goes on in both.
        opened = [(goes | bit, edges | bit) for goes, edges in pairs if goes << 1 & bit]
        pairs = gone + closed + opened
    return Ways(many, pairs)


def _parted(p, q, people, lowest, ways):
    """A line on which two talks do not do the same, if from a lowest crowd on it stands in one of the ways, and the
    talk goes on in no other crowd; or None."""
    stretch = Stretch(people, lowest, lowest + ways.many - 1, len(ways.pairs))
    standing = Standing(stretch, ways.goes, ways.edges)
    one = Course().through(standing, p.rows, 0)
    other = Course().through(standing, q.rows, 0)
    parted = one.goes ^ other.goes | one.edges ^ other.edges
    if parted == 0:
        return None
    # The last pair has the lowest bit of each crowd.
    goes, edges = ways.pairs[-1 - (parted.bit_length() - 1) % len(ways.pairs)]
    goes_in = [lowest + at for at in range(ways.many) if goes >> at & 1]
    open_edges = [lowest + at for at in range(ways.many) if edges >> at & 1]
    return Line(people, goes_in, open_edges)
