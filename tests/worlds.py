"""What comes of the people themselves ([17]): all sets of marked people, person by person.

This is the second way against which lines and runs are held. It knows nothing of edges: it keeps for each person which
worlds this person cannot tell apart.
"""

import itertools

from foreheads.crowds import Crowds

from terms import numbered


class Said(Exception):
    """Something is said that does not hold."""


class Held:
    """How things stand. A class below tells what stays behind a row, and the answers to rows in a world or crowd."""

    def after(self, terms):
        found = self
        for term in terms:
            found = found.after_row(term)
        return found

    def heard(self, terms, place, at=0, come_to=None):
        """What is heard at a place, in pairs, and how things stand behind it; puts the numbers of rows to a list."""
        found, now = [], self
        come_to = [] if come_to is None else come_to
        for term in terms:
            come_to.append(at)
            if term[0] == "times":
                for _ in range(term[1]):
                    more, now = now.heard(term[2], place, at + 1, come_to)
                    found += more
            else:
                answer = now.answer(term, place)
                if term[0] == "say" and not answer:
                    raise Said(at)
                found.append((at, answer))
                if term[0] == "if":
                    begin = at + 1 if answer else at + 1 + len(numbered(term[2]))
                    part = now.part(term[1], answer)
                    more, now = part.heard(term[2] if answer else term[3], place, begin, come_to)
                    found += more
                else:
                    now = now.after_row(term)
            at += len(numbered([term]))
        return found, now


class Worlds(Held):
    """Worlds (sets of marked people), and for each person and world those that the person holds possible."""

    def __init__(self, people, worlds, possible):
        self.people = people
        self.worlds = worlds
        self.possible = possible

    def know(self, person, world, test):
        return all(test(other) for other in self.possible[person, world])

    def of_kind(self, kind, world):
        return [person for person in range(self.people) if (person in world) == (kind == "marked")]

    def is_sure(self, person, world):
        return self.know(person, world, lambda other: (person in other) == (person in world))

    def reached(self, world):
        """All worlds to which one comes by what people hold possible."""
        found, waiting = {world}, [world]
        while waiting:
            here = waiting.pop()
            for person in range(self.people):
                for other in self.possible[person, here]:
                    if other not in found:
                        found.add(other)
                        waiting.append(other)
        return found

    def holds(self, term, world):
        head = term[0]
        if head == "least":
            return len(self.of_kind(term[1], world)) >= term[2]
        if head == "rest":
            return len(self.of_kind(term[1], world)) % term[3] == term[2]
        if head == "fact":
            return (len(world), self.people - len(world)) in Crowds(*term[1:])
        if head == "sure":
            return all(self.is_sure(person, world) for person in self.of_kind(term[1], world))
        if head == "silent":
            return not any(self.is_sure(person, world) for person in range(self.people))
        if head == "knows":
            return all(self.know(person, world, lambda other: self.holds(term[2], other))
                       for person in self.of_kind(term[1], world))
        if head == "common":
            return all(self.holds(term[1], other) for other in self.reached(world))
        if head == "not":
            return not self.holds(term[1], world)
        one, other = self.holds(term[1], world), self.holds(term[2], world)
        return {"&": one and other, "|": one or other, "^": one != other, "-": one and not other}[head]

    def only(self, worlds):
        """What stays if all hear that it is one of these worlds."""
        kept = set(worlds)
        return Worlds(self.people, [world for world in self.worlds if world in kept],
                      {(person, world): [other for other in found if other in kept]
                       for (person, world), found in self.possible.items() if world in kept})

    def seeing(self, seen):
        """What stays if each person sees something in each world."""
        return Worlds(self.people, self.worlds, {
            (person, world): [other for other in found if seen(person, other) == seen(person, world)]
            for (person, world), found in self.possible.items()})

    def joined(self, other):
        return Worlds(self.people, self.worlds + other.worlds, {**self.possible, **other.possible})

    def does(self, term, person, world):
        """Whether a person lifts a hand, or steps forward."""
        if term[0] == "step":
            return self.is_sure(person, world)
        return self.know(person, world, lambda other: self.holds(term[1], other))

    def after_row(self, term):
        if term[0] == "times":
            return self.after(term[2] * term[1])
        if term[0] in ("hands", "step"):
            done = {(person, world): self.does(term, person, world)
                    for person in range(self.people) for world in self.worlds}
            return self.seeing(lambda me, world: [done[person, world] for person in range(self.people) if person != me])
        one, other = self.part(term[1], True), self.part(term[1], False)
        if term[0] == "say":
            return one
        if term[0] == "ask":
            return one.joined(other)
        return one.after(term[2]).joined(other.after(term[3]))

    def where(self, term):
        """The numbers of marked people of the worlds in which a saying holds."""
        return self.told([world for world in self.worlds if self.holds(term, world)])

    def told(self, worlds):
        """The numbers of marked people of worlds; these are all worlds there are with so many, or none."""
        numbers = sorted({len(world) for world in worlds})
        assert sorted(map(sorted, worlds)) == sorted(
            sorted(world) for number in numbers for world in itertools.combinations(range(self.people), number))
        return tuple(numbers)

    def line(self):
        """Where it goes on, and between which numbers of marked people somebody holds both possible."""
        open_edges, closed = set(), set()
        for (person, world), found in self.possible.items():
            assert world in found and set(found) <= {world, world ^ {person}}
            both = {world, world ^ {person}}
            if both <= set(self.worlds):
                (open_edges if len(found) == 2 else closed).add(max(map(len, both)))
        assert not open_edges & closed
        return self.told(self.worlds), tuple(sorted(open_edges))

    def part(self, term, answer):
        """What stays if all hear whether a saying holds, where this is the answer."""
        return self.only([world for world in self.worlds if self.holds(term, world) == answer])

    def answer(self, term, world):
        if term[0] in ("hands", "step"):
            pair = []
            for kind in ("marked", "plain"):
                answers = {self.does(term, person, world) for person in self.of_kind(kind, world)}
                assert len(answers) < 2
                pair.append(answers.pop() if answers else None)
            return tuple(pair)
        return self.holds(term[1], world)


def worlds_of(people, goes=None, edges=None):
    """The worlds of a line, and who cannot tell which apart."""
    goes = range(people + 1) if goes is None else goes
    edges = range(1, people + 1) if edges is None else edges
    worlds = [frozenset(world) for number in goes for world in itertools.combinations(range(people), number)]
    possible = {}
    for person, world in itertools.product(range(people), worlds):
        other = world ^ {person}
        is_open = other in worlds and max(len(world), len(other)) in edges
        possible[person, world] = [world, other] if is_open else [world]
    return Worlds(people, worlds, possible)
