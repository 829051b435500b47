"""Promise [25], and what [1] and [2] say of ways."""

import itertools
import unittest

from foreheads.errors import NoCrowd
from foreheads.sayings import AtLeast, Common, Knows, Rest, Silent, Sure
from foreheads.talks import Ask, If, Say, Step, Talk
from foreheads.told import told
from foreheads.ways import way, way_holds

from samples import all_crowds, any_values
from terms import KINDS, drawn_questions, rows_of, saying_of
from words import Stand
from worlds import worlds_of

SOME = AtLeast("marked", 1)


def shortest(worlds, term, world):
    """The least number of people, one after another, who hold possible that the saying does not hold; or None."""
    seen, now, many = {world}, [world], 0
    while now:
        if any(not worlds.holds(term, here) for here in now):
            return many
        now = list({other for here in now for person in range(worlds.people) for other in worlds.possible[person, here]
                    if other not in seen})
        seen.update(now)
        many += 1
    return None


def leads(worlds, term, world, kinds):
    """Whether people of these kinds, one after another, hold possible that the saying does not hold."""
    now = {world}
    for kind in kinds:
        now = {other for here in now for person in worlds.of_kind(kind, here) for other in worlds.possible[person, here]
               if other != here}
    return any(not worlds.holds(term, here) for here in now)


class AgainstWorlds(unittest.TestCase):
    def check(self, terms, term, found):
        talk, saying = Talk(rows_of(terms)), saying_of(term)
        for people in range(5):
            worlds = worlds_of(people).after(terms)
            for marked in range(people + 1):
                crowd, world = (marked, people - marked), frozenset(range(marked))
                if world not in worlds.worlds:
                    self.assertRaises(NoCrowd, way, talk, crowd, saying)
                    self.assertRaises(NoCrowd, way_holds, talk, crowd, saying, ())
                    continue
                kinds = way(talk, crowd, saying)
                found.append(kinds)
                self.assertEqual(None if kinds is None else len(kinds), shortest(worlds, term, world))
                self.assertIs(kinds is None, worlds.holds(("common", term), world))
                if kinds is not None:
                    self.assertIs(type(kinds), tuple)
                    self.assertIs(way_holds(talk, crowd, saying, kinds), True)
                    self.assertTrue(leads(worlds, term, world, kinds))
                if kinds == ():
                    self.assertFalse(worlds.holds(term, world))
                for many in range(4):
                    for value in itertools.product(KINDS, repeat=many):
                        self.assertIs(way_holds(talk, crowd, saying, value), leads(worlds, term, world, value))

    def test_drawn(self):
        found = []
        for terms, term in drawn_questions(70, 1, layers=1):
            self.check(terms, term, found)
        for wanted in (None, (), ("marked",), ("plain",)):
            self.assertIn(wanted, found)
        self.assertGreater(len([kinds for kinds in found if kinds and len(kinds) > 1]), 20)


class AgainstCounts(unittest.TestCase):
    def check(self, terms, term, most):
        talk, saying = Talk(rows_of(terms)), saying_of(term)
        far = told(talk).far(saying)
        for crowd in all_crowds(most):
            if crowd not in far.crowds:
                with self.assertRaises(NoCrowd) as caught:
                    way(talk, crowd, saying)
                self.assertIs(caught.exception.crowd, crowd)
                continue
            kinds = way(talk, crowd, saying)
            self.assertEqual(None if kinds is None else len(kinds), far(crowd), (terms, term, crowd))
            self.assertIs(kinds is None, crowd in far.never)
            if kinds is not None:
                self.assertIs(way_holds(talk, crowd, saying, kinds), True)
                if kinds:
                    self.assertIs(way_holds(talk, crowd, saying, kinds[:-1]), False)

    def test_drawn(self):
        for terms, term in drawn_questions(40, 2):
            self.check(terms, term, 12)

    def test_greater_numbers(self):
        for terms, term in drawn_questions(12, 3, number=6, layers=3, rows=5):
            self.check(terms, term, 12)

    def test_forty_people(self):
        for terms, term in drawn_questions(25, 4):
            talk, saying = Talk(rows_of(terms)), saying_of(term)
            far = told(talk).far(saying)
            for crowd in ((20, 20), (40, 0), (0, 40), (39, 1), (7, 33)):
                if crowd in far.crowds:
                    kinds = way(talk, crowd, saying)
                    self.assertEqual(None if kinds is None else len(kinds), far(crowd))


class ByHand(unittest.TestCase):
    def test_ways(self):
        talk = Talk([Say(SOME)])
        self.assertIsNone(way(talk, (5, 5), SOME))
        self.assertEqual(way(talk, (5, 5), AtLeast("marked", 3)), ("marked",) * 3)
        self.assertEqual(way(talk, (5, 5), AtLeast("plain", 3)), ("plain",) * 3)
        self.assertEqual(way(talk, (5, 5), AtLeast("marked", 6)), ())
        self.assertIn(way(talk, (5, 5), AtLeast("marked", 4) & AtLeast("plain", 4)), (("marked",) * 2, ("plain",) * 2))
        self.assertEqual(way(talk, (1, 3), Knows("plain", SOME) & AtLeast("plain", 2)), ("plain", "plain"))
        self.assertEqual(way(Talk(), (2, 0), SOME), ("marked", "marked"))
        self.assertIsNone(way(Talk(), (0, 0), Silent()))
        self.assertEqual(way(Talk(), (0, 0), SOME), ())
        self.assertIsNone(way(Talk([Ask(Rest("marked", 0, 2))]), (4, 4), Rest("marked", 0, 2)))

    def test_what_is_told(self):
        told_ways = [("marked",) * 3, ("marked",) * 4, ("marked", "plain", "marked", "marked", "marked"),
                     ("plain", "marked") * 2 + ("marked",) * 3, ("plain",) * 5 + ("marked",) * 8]
        wrong = [(), ("marked",), ("marked",) * 2, ("plain",) * 3, ("marked",) * 5, ("plain", "marked"), ("plain",) * 6,
                 ("marked",) * 3 + ("plain",), ("marked",) * 4 + ("marked", "plain"), ("plain",) * 6 + ("marked",) * 9,
                 ["marked"] * 3, ["marked"] * 4, "marked", ("marked", "Marked", "marked"), ("marked", None, "marked"),
                 ("marked", ("marked",), "marked"), (("marked",) * 3,), ("marked", "marked", "marked "), 3, None,
                 ("marked",) * 3 + (1,), (True,) * 3]
        for value in told_ways:
            self.assertIs(way_holds(Talk([Say(SOME)]), (5, 5), AtLeast("marked", 3), value), True, value)
        for value in wrong:
            self.assertIs(way_holds(Talk([Say(SOME)]), (5, 5), AtLeast("marked", 3), value), False, value)

    def test_over_open_edges_alone(self):
        talk = Talk([Ask(AtLeast("marked", 4))])
        self.assertIsNone(way(talk, (5, 5), AtLeast("marked", 3)))
        for many in range(9):
            self.assertIs(way_holds(talk, (5, 5), AtLeast("marked", 3), ("marked",) * many), False)
        self.assertEqual(way(talk, (5, 5), AtLeast("marked", 5)), ("marked",))
        self.assertIs(way_holds(talk, (3, 7), SOME, ("plain",) + ("marked",) * 4), False)
        self.assertIs(way_holds(talk, (3, 7), SOME, ("marked", "plain") + ("marked",) * 3), True)


class AnyValues(unittest.TestCase):
    def test_any_value(self):
        stand = Stand(5).after((("say", ("least", "marked", 1)),))
        for value in any_values() + [{}, {"marked"}, ("marked", "plain", "marked"), ("plain",), ["plain"], b"marked"]:
            wanted = False
            if isinstance(value, tuple) and all(isinstance(kind, str) and kind in KINDS for kind in value):
                now = 2
                for kind in value:
                    edge = now + (kind == "plain")
                    now = now + (1 if kind == "plain" else -1) if now is not None and edge in stand.edges else None
                    if now is None:
                        break
                wanted = now is not None and now < 2
            self.assertIs(way_holds(Talk([Say(SOME)]), (2, 3), AtLeast("marked", 2), value), wanted, value)

    def test_no_crowd_whatever_is_looked_at(self):
        talk = Talk([Say(SOME), If(AtLeast("marked", 3), [Say(AtLeast("plain", 2))])])
        for crowd in ((0, 0), (0, 4), (3, 1), (4, 0), (40, 0)):
            for saying in (SOME, ~SOME, Silent(), Common(SOME)):
                with self.assertRaises(NoCrowd) as caught:
                    way(talk, crowd, saying)
                self.assertIs(caught.exception.crowd, crowd)
                for value in any_values() + [("marked",), ()]:
                    with self.assertRaises(NoCrowd) as caught:
                        way_holds(talk, crowd, saying, value)
                    self.assertIs(caught.exception.crowd, crowd)
        self.assertIsNone(way(talk, (3, 2), SOME))

    def test_by_name(self):
        talk = Talk([Step()])
        self.assertEqual(way(saying=SOME, crowd=(1, 1), talk=talk), ("marked",))
        self.assertIs(way_holds(value=("marked",), saying=SOME, crowd=(1, 1), talk=talk), True)
        self.assertIs(way_holds(value=(), saying=Sure("plain"), crowd=(1, 1), talk=talk), True)


if __name__ == "__main__":
    unittest.main()
