"""Ways: over open edges, to a crowd in which something does not hold that is therefore not common knowledge."""

from foreheads.checks import KINDS, is_kind
from foreheads.errors import NoCrowd
from foreheads.lines import Line


def way(talk, crowd, saying):
    """A shortest way from a crowd to one in which a saying does not hold behind the talk, or None."""
    line = _line_behind(talk, crowd)
    good = line.where(saying)
    found = None
    # On a line a shortest way goes straight down, or straight up.
    for kind in KINDS:
        many = _edges_to_bad(line, crowd[0], kind, good)
        if many is not None and (found is None or many < len(found)):
            found = (kind,) * many
    return found


def way_holds(talk, crowd, saying, value):
    """Whether any value is a way from a crowd to one in which a saying does not hold behind the talk."""
    line = _line_behind(talk, crowd)
    if not isinstance(value, tuple) or not all([is_kind(kind) for kind in value]):
        return False
    marked = crowd[0]
    for kind in value:
        marked = _next_on(line, marked, kind)
        if marked is None:
            return False
    return marked not in line.where(saying)


def _line_behind(talk, crowd):
    """The line of a crowd behind the talk; NoCrowd if the talk does not go on in the crowd."""
    line = Line(crowd[0] + crowd[1]).after(talk)
    if crowd[0] not in line.goes:
        raise NoCrowd(crowd)
    return line


def _next_on(line, marked, kind):
    """The crowd to which a kind leads from a crowd of the line, or None if that edge is not open."""
    edge = marked if kind == "marked" else marked + 1
    if edge not in line.edges:
        return None
    return marked - 1 if kind == "marked" else marked + 1


def _edges_to_bad(line, marked, kind, good):
    """How many times a kind leads on until a crowd is none of the good ones, or None."""
    many = 0
    while marked in good:
        marked = _next_on(line, marked, kind)
        if marked is None:
            return None
        many = many + 1
    return many
