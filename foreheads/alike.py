"""Alike: what two talks leave, compared; what is sure behind a talk; and talks that lead to something."""

from foreheads.crowds import Crowds
from foreheads.lines import Line
from foreheads.talks import Say, Talk
from foreheads.told import told


def alike(p, q, *, given=None):
    """Whether two talks leave the same."""
    return _told_given(p, given) == _told_given(q, given)


def partings(p, q, *, given=None):
    """The crowds in which just one of two talks goes on, or at which an edge is open behind one of them alone."""
    one = _told_given(p, given)
    other = _told_given(q, given)
    edges = one.edges ^ other.edges
    return one.goes ^ other.goes | one.goes & other.goes & (edges | edges.beside("plain"))


def least_parting(p, q, *, given=None):
    """The least crowd that parts two talks, or None."""
    return partings(p, q, given=given).least


def sure(talk, saying, *, given=None):
    """Whether a saying holds in all crowds in which a talk goes on."""
    return not _breaches(talk, saying, given)


def least_breach(talk, saying, *, given=None):
    """The least crowd in which a talk goes on and a saying does not hold, or None."""
    return _breaches(talk, saying, given).least


def needless(talk, *, given=None):
    """The numbers of the rows without which, each alone, the talk is alike."""
    whole = _told_given(talk, given)
    return tuple([at for at in range(len(talk)) if _told_given(talk.without(at), given) == whole])


def reach(rows, saying, most, *, given=None):
    """The crowds in which some talk of at most so many of the rows goes on, and the saying holds behind it."""
    found = Crowds.nothing()
    for indexes in _choices(len(rows), most):
        talk = Talk([rows[index] for index in indexes])
        found = found | _told_given(talk, given).where(saying)
    return found


def plan(rows, saying, most, crowd, *, given=None):
    """The first indexes of rows whose talk goes on in a crowd, and behind which the saying holds there, or None."""
    line = Line(crowd[0] + crowd[1])
    for indexes in _choices(len(rows), most):
        talk = Talk([rows[index] for index in indexes])
        if crowd[0] in line.after(_with_given(talk, given)).where(saying):
            return indexes
    return None


def _with_given(talk, given):
    """The talk, behind what is given."""
    if given is None:
        return talk
    return Talk([Say(given)]) + talk


def _told_given(talk, given):
    return told(_with_given(talk, given))


def _breaches(talk, saying, given):
    """The crowds in which a talk goes on and a saying does not hold."""
    behind = _told_given(talk, given)
    return behind.goes - behind.where(saying)


def _choices(many, most):
    """The tuples of at most so many of the first indexes, shorter ones first, then the lesser ones."""
    found = [()]
    longest = [()]
    for _ in range(most):
        longest = [(*indexes, index) for indexes in longest for index in range(many)]
        found = found + longest
    return found
