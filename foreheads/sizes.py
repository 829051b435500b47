"""From which start on, and with which period, the tables go round that tell where sayings hold and rows lead."""

from math import lcm

from foreheads.crowds import Crowds
from foreheads.sayings import AtLeast, Common, Fact, Knows, Rest, Silent, Sure


def set_of(saying):
    """The set of the crowds in which a simple saying holds."""
    if isinstance(saying, Fact):
        return saying.crowds
    if isinstance(saying, AtLeast):
        return Crowds.at_least(saying.kind, saying.number)
    return Crowds.leaving(saying.kind, saying.rest, saying.period)


def sets_in(sayings):
    """The sets of crowds that are told by the simple sayings in sayings."""
    found = []
    waiting = list(sayings)
    while waiting:
        saying = waiting.pop()
        waiting.extend(saying.inner())
        if isinstance(saying, (AtLeast, Rest, Fact)):
            found.append(set_of(saying))
    return found


def sayings_in(rows):
    """The sayings that stand in rows, and in the rows in them."""
    found = []
    waiting = list(rows)
    while waiting:
        row = waiting.pop()
        waiting.extend(row.inner())
        if row.HEAD != "step" and row.HEAD != "times":
            found.append(row.saying)
    return found


def common_period(sets):
    """The least common multiple of all periods of sets."""
    period = 1
    for crowds in sets:
        period = lcm(period, crowds.periods[0], crowds.periods[1])
    return period


def greatest_start(sets):
    """The greatest start of sets, 0 for none."""
    return max([int(start) for crowds in sets for start in crowds.starts], default=0)


def start_of(goes, edges):
    """A start that is late enough for how things stand, and to tell whether there is somebody of a kind."""
    return max(1, int(greatest_start([goes, edges])))


def start_where(saying, start, period):
    """A start that is late enough where a saying holds, and for all that is looked at to find it, if the table of the
    open edges goes round from such a start on with the period."""
    if isinstance(saying, (AtLeast, Rest, Fact)):
        return greatest_start([set_of(saying)])
    within = max([int(start_where(part, start, period)) for part in saying.inner()], default=0)
    if isinstance(saying, (Sure, Silent)):
        return start + 1
    if isinstance(saying, Knows):
        return max(int(start), int(within)) + 1
    if isinstance(saying, Common):
        # An open edge can lead to the other end of a line unless the line has a whole period behind both starts.
        return 2 * max(int(start), int(within)) + period
    return within


def start_behind(rows, start, period):
    """A start that is late enough behind rows, if one ahead of them (at least 1) is told."""
    for row in rows:
        start = _start_behind_one(row, start, period)
    return start


def _start_behind_one(row, start, period):
    """A start that is late enough behind a row."""
    if row.HEAD == "times":
        return start_behind(row.rows * row.many, start, period)
    if row.HEAD == "step":
        return start + 1
    held = start_where(row.saying, start, period)
    if row.HEAD == "hands":
        return max(int(start) + 1, int(held) + 2)
    parted = max(int(start), int(held) + 1)
    if row.HEAD != "if":
        return parted
    return max(int(start_behind(row.rows, parted, period)), int(start_behind(row.others, parted, period)))
