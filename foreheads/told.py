"""All crowds: how things stand behind a talk, however many people there are."""

from foreheads.counts import Count
from foreheads.crowds import Crowds
from foreheads.errors import NoRow
from foreheads.planes import Plane
from foreheads.sayings import Silent
from foreheads.sizes import common_period, sayings_in, sets_in, start_behind, start_of, start_where
from foreheads.standing import Course


def told(talk):
    """How things stand behind a talk, in all crowds."""
    period = common_period(sets_in(sayings_in(talk.rows)))
    goes = Crowds.every()
    edges = Crowds.at_least("marked", 1)
    courses = []
    at = 0
    for rows in _legs(talk.rows):
        plane = Plane(start_behind(rows, start_of(goes, edges), period), period)
        course = Course()
        standing = course.through(plane.placed(goes, edges), rows, at)
        goes = plane.set_with(standing.goes)
        edges = plane.set_with(standing.edges)
        courses.append((plane, course))
        at = at + sum([row.span for row in rows])
    return Told(goes, edges, courses, at)


def _legs(rows):
    """Rows, cut ahead of each one with a `Common`: there a start must be twice as late, and so is as early as it can be
    if it is looked for anew."""
    legs = []
    for row in rows:
        if not legs or any([saying.commons > 0 for saying in sayings_in([row])]):
            legs.append([])
        legs[-1].append(row)
    return legs


class Told:
    """How things stand behind a talk, in all crowds: where it goes on, and which edges are open."""

    def __init__(self, goes, edges, courses, many):
        self.goes = goes
        self.edges = edges
        self.courses = tuple(courses)
        self.many = many

    def stops(self, at):
        """The crowds in which the row with a number is said and does not hold."""
        self.check_row(at)
        for plane, course in self.courses:
            if at in course.stopped:
                return plane.set_with(course.stopped[at])
        return Crowds.nothing()

    def comes(self, at):
        """The crowds in which the talk comes to the row with a number."""
        self.check_row(at)
        for plane, course in self.courses:
            if at in course.arrived:
                return plane.set_with(course.arrived[at])
        return Crowds.nothing()

    def check_row(self, at):
        """Raises NoRow unless there is a row with this number."""
        if not 0 <= at < self.many:
            raise NoRow(at)

    def where(self, saying):
        """The crowds in which the talk goes on and a saying holds behind it."""
        period = common_period([self.goes, self.edges] + sets_in([saying]))
        start = start_of(self.goes, self.edges)
        plane = Plane(max(int(start), int(start_where(saying, start, period))), period)
        standing = plane.placed(self.goes, self.edges)
        return plane.set_with(standing.goes & standing.where(saying))

    def wait(self):
        """In which round of steps behind the talk somebody first steps forward."""
        return self.counted(Silent(), 1)

    def far(self, saying):
        """Over how many open edges one comes to a crowd in which a saying does not hold."""
        return self.counted(saying, 0)

    def counted(self, saying, first):
        """The numbers of open edges to a crowd in which a saying does not hold, and the first number more."""
        return Count(self.goes, self.edges, self.goes - self.where(saying), first)

    def __eq__(self, other):
        if not isinstance(other, Told):
            return False
        return self.goes == other.goes and self.edges == other.edges
