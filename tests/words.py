"""Lines by the very words of [17], crowd by crowd: the second way for lines that are too long to go through all worlds."""

import itertools

from foreheads.crowds import Crowds

from worlds import Held


class Stand(Held):
    """The crowds in which a talk goes on, and the open edges."""

    def __init__(self, people, goes=None, edges=None):
        self.people = people
        self.goes = set(range(people + 1) if goes is None else goes)
        self.edges = set(range(1, people + 1) if edges is None else edges)
        self.found = {}

    def possible(self, kind, k):
        """What a person of the kind holds possible in the crowd k."""
        if kind == "marked":
            return [k, k - 1] if k in self.edges else [k]
        return [k, k + 1] if k + 1 in self.edges else [k]

    def many(self, kind, k):
        return k if kind == "marked" else self.people - k

    def is_sure(self, kind, k):
        return len(self.possible(kind, k)) == 1

    def knows(self, kind, term, k):
        return all(self.holds(term, other) for other in self.possible(kind, k))

    def reached(self, k):
        low = high = k
        while low in self.edges:
            low -= 1
        while high + 1 in self.edges:
            high += 1
        return range(low, high + 1)

    def holds(self, term, k):
        if (term, k) not in self.found:
            self.found[term, k] = self.look(term, k)
        return self.found[term, k]

    def look(self, term, k):
        head = term[0]
        if head == "least":
            return self.many(term[1], k) >= term[2]
        if head == "rest":
            return self.many(term[1], k) % term[3] == term[2]
        if head == "fact":
            return (k, self.people - k) in Crowds(*term[1:])
        if head == "sure":
            return self.many(term[1], k) == 0 or self.is_sure(term[1], k)
        if head == "silent":
            return not any(self.many(kind, k) > 0 and self.is_sure(kind, k) for kind in ("marked", "plain"))
        if head == "knows":
            return self.many(term[1], k) == 0 or self.knows(term[1], term[2], k)
        if head == "common":
            return all(self.holds(term[1], other) for other in self.reached(k))
        if head == "not":
            return not self.holds(term[1], k)
        one, other = self.holds(term[1], k), self.holds(term[2], k)
        return {"&": one and other, "|": one or other, "^": one != other, "-": one and not other}[head]

    def where(self, term):
        return tuple(k for k in sorted(self.goes) if self.holds(term, k))

    def told(self):
        return self.people, tuple(sorted(self.goes)), tuple(sorted(self.edges))

    def part(self, term, answer):
        goes = {k for k in self.goes if self.holds(term, k) == answer}
        return Stand(self.people, goes, [k for k in self.edges if k in goes and k - 1 in goes])

    def stays(self, term, k):
        """Whether the open edge k stays open behind hands ([17])."""
        a = self.holds(term[1], k) and self.holds(term[1], k - 1)
        return (k == 1 or a == self.knows("marked", term[1], k - 1)) and (
            k == self.people or a == self.knows("plain", term[1], k))

    def after_row(self, term):
        head = term[0]
        if head == "times":
            return self.after(term[2] * term[1])
        if head == "step":
            return Stand(self.people, self.goes, [
                k for k in self.edges if self.holds(("silent",), k) and self.holds(("silent",), k - 1)])
        if head == "hands":
            return Stand(self.people, self.goes, [k for k in self.edges if self.stays(term, k)])
        one, other = self.part(term[1], True), self.part(term[1], False)
        if head == "say":
            return one
        if head == "if":
            one, other = one.after(term[2]), other.after(term[3])
        return Stand(self.people, one.goes | other.goes, one.edges | other.edges)

    def answer(self, term, k):
        if term[0] == "step":
            return tuple(self.is_sure(kind, k) if self.many(kind, k) else None for kind in ("marked", "plain"))
        if term[0] == "hands":
            return tuple(self.knows(kind, term[1], k) if self.many(kind, k) else None for kind in ("marked", "plain"))
        return self.holds(term[1], k)


def drawn_line(chance, most=4):
    """People, crowds and edges of a line as it may stand."""
    people = chance.randint(0, most)
    goes = tuple(k for k in range(people + 1) if chance.random() < 0.85)
    edges = tuple(k for k in range(1, people + 1) if k in goes and k - 1 in goes and chance.random() < 0.75)
    return people, goes, edges


def all_lines(people):
    """Every way in which a line with so many people can stand."""
    for many in range(people + 2):
        for goes in itertools.combinations(range(people + 1), many):
            between = [k for k in range(1, people + 1) if k in goes and k - 1 in goes]
            for closed in range(len(between) + 1):
                for edges in itertools.combinations(between, closed):
                    yield people, goes, edges
