"""Counts: for each crowd of a set a number, or that there is none."""

from math import lcm

from foreheads.crowds import place_of
from foreheads.errors import NoCrowd
from foreheads.planes import Plane
from foreheads.sizes import common_period, greatest_start


class Count:
    """For each crowd of a set the least number of open edges over which one comes to a failing crowd, and the first
    number more; or that one comes to none.

    On a line one goes down, to crowds with fewer marked people, or up. Where both numbers of people are greater than
    the starts, such a way meets the same again after each period. So it ends within the first one, or it goes on as
    long as the one number lasts, and is longer by as much as this number is greater.
    """

    def __init__(self, crowds, edges, failing, first):
        self.crowds = crowds
        self.failing = failing
        self.first = first
        self.down_edges = edges
        self.up_edges = edges.beside("plain")
        sets = [crowds, failing, self.down_edges, self.up_edges]
        self.start = greatest_start(sets)
        self.period = common_period(sets)
        # From so many people of a kind a way to few of them goes through a whole period where both kinds are many.
        self.late = 2 * self.start + self.period
        self.never = self.where_never()

    def where_never(self):
        """The crowds from which one comes to no failing one."""
        plane = Plane(self.late, self.period)
        standing = self.standing_on(plane)
        return plane.set_with(standing.goes & standing.where_common(plane.bits(self.crowds - self.failing)))

    def standing_on(self, plane):
        """How things stand, on a plane."""
        return plane.placed(self.crowds, self.down_edges)

    def __call__(self, crowd):
        if crowd not in self.crowds:
            raise NoCrowd(crowd)
        marked = place_of(crowd[0], self.late, self.period)
        plain = place_of(crowd[1], self.late, self.period)
        down = self.lengthened(self.edges_over(marked, plain, self.down_edges, -1), crowd[0] - marked)
        up = self.lengthened(self.edges_over(marked, plain, self.up_edges, 1), crowd[1] - plain)
        return min([int(self.first + many) for many in (down, up) if many is not None], default=None)

    def edges_over(self, marked, plain, edges, turn):
        """The number of edges from a crowd down or up (by one marked person less or more each) to a failing one."""
        many = 0
        while (marked, plain) not in self.failing:
            if (marked, plain) not in edges:
                return None
            many = many + 1
            marked = marked + turn
            plain = plain - turn
        return many

    def lengthened(self, many, more):
        """The number of edges where there are so many more people of the kind of which one goes to fewer."""
        if many is None or many < self.start + self.period:
            return many
        return many + more

    def by(self, number):
        """The crowds with a number that is at most this one."""
        plane = Plane(self.start + number, self.period)
        standing = self.standing_on(plane)
        held = 0
        for reached in range(number + 1):
            held = self.with_number(reached, standing, held)
        return plane.set_with(held)

    def with_number(self, number, standing, held):
        """The crowds with a number, put to those with less."""
        if number == self.first:
            return standing.ground.bits(self.failing)
        return standing.spread(held)

    @property
    def greatest(self):
        """The greatest number, or None if there is none, or they grow without end."""
        # No number is greater than this one that does not grow.
        most = self.first + self.late + self.period
        standing = self.standing_on(Plane(self.start + most, self.period))
        held = 0
        for number in range(self.first, most + 1):
            more = self.with_number(number, standing, held)
            if more == held:
                return number - 1 if held else None
            held = more
        return None

    def is_like(self, other):
        """Whether two counts tell the same in each crowd of equal sets."""
        if self.crowds != other.crowds or self.never != other.never:
            return False
        period = lcm(self.period, other.period)
        start = max(int(self.start), int(other.start))
        # Numbers that differ at all differ where one of them is at most as great as this.
        most = 2 * (start + period) + max(int(self.first), int(other.first))
        plane = Plane(start + most, period)
        mine = self.standing_on(plane)
        theirs = other.standing_on(plane)
        held = 0
        for number in range(most):
            more = self.with_number(number, mine, held)
            if more != other.with_number(number, theirs, held):
                return False
            held = more
        return True
