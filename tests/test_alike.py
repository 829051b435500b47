"""Promises [23] and [24], and what [2] and [3] say of them."""

import inspect
import itertools
import random
import unittest

from foreheads import alike as module
from foreheads.alike import alike, least_breach, least_parting, needless, partings, plan, reach, sure
from foreheads.crowds import Crowds
from foreheads.lines import Line
from foreheads.sayings import AtLeast, Common, Fact, Knows, Rest, Silent, Sure, everybody
from foreheads.talks import Ask, Hands, If, Say, Step, Talk, Times
from foreheads.told import told

from samples import all_crowds
from terms import drawn_great_saying, drawn_question, drawn_row, drawn_saying, is_question, numbered, rows_of, saying_of
from words import Stand
from worlds import worlds_of

SOME = AtLeast("marked", 1)
FUNCTIONS = {"alike": ("p", "q"), "partings": ("p", "q"), "least_parting": ("p", "q"), "sure": ("talk", "saying"),
             "least_breach": ("talk", "saying"), "needless": ("talk",), "reach": ("rows", "saying", "most"),
             "plan": ("rows", "saying", "most", "crowd")}


def least(crowds):
    return min(crowds, key=lambda crowd: (sum(crowd), crowd[0]), default=None)


def drawn_pair(chance, given=False):
    """Two talks that are often nearly alike, and a saying that is given, or None."""
    while True:
        terms, term = drawn_question(chance, rows=3, layers=1)
        other = list(terms)
        for _ in range(chance.randint(0, 2)):
            at = chance.randint(0, len(other))
            other[at:at + chance.randint(0, 1)] = [drawn_row(chance, 1, 1)] * chance.randint(0, 1)
        if is_question(terms + tuple(other), [term]):
            return terms, tuple(other), term if given else None


def parted(one, other, people):
    """The crowds of a line that are parted, by where two talks go on and which edges they leave open."""
    found = []
    for marked in range(people + 1):
        goes = [marked in stand[0] for stand in (one, other)]
        edges = [[edge in stand[1] for edge in (marked, marked + 1)] for stand in (one, other)]
        if goes[0] != goes[1] or (all(goes) and edges[0] != edges[1]):
            found.append((marked, people - marked))
    return found


def with_given(terms, given):
    return terms if given is None else (("say", given), *terms)


class AgainstWorlds(unittest.TestCase):
    """Up to four people person by person, and more by the words of [17]."""

    def ways(self, terms, people):
        if people <= 4:
            behind = worlds_of(people).after(terms)
            return behind.line(), lambda term: behind.where(term)
        behind = Stand(people).after(terms)
        return behind.told()[1:], lambda term: behind.where(term)

    def check_pair(self, p, q, given, most):
        found = []
        for people in range(most + 1):
            stands = [self.ways(with_given(terms, given), people)[0] for terms in (p, q)]
            found += parted(*stands, people)
        one, other, beside = Talk(rows_of(p)), Talk(rows_of(q)), given and saying_of(given)
        crowds = partings(one, other, given=beside)
        self.assertEqual([crowd for crowd in all_crowds(most) if crowd in crowds], found, (p, q, given))
        self.assertEqual(least_parting(one, other, given=beside), least(found) or crowds.least)
        self.assertIs(alike(one, other, given=beside), not crowds)
        self.assertIs(alike(other, one, given=beside), not crowds)
        self.assertEqual(partings(other, one, given=beside), crowds)
        return bool(found)

    def test_two_talks(self):
        chance = random.Random(1)
        found = [self.check_pair(*drawn_pair(chance, at % 2 == 1), 4) for at in range(120)]
        self.assertGreater(found.count(True), 25)
        self.assertGreater(found.count(False), 25)

    def test_two_talks_with_more_people(self):
        chance = random.Random(2)
        for at in range(60):
            self.check_pair(*drawn_pair(chance, at % 2 == 1), 13)

    def check_saying(self, terms, term, given, most):
        found = []
        for people in range(most + 1):
            (goes, _), where = self.ways(with_given(terms, given), people)
            found += [(marked, people - marked) for marked in goes if marked not in where(term)]
        talk, saying, beside = Talk(rows_of(terms)), saying_of(term), given and saying_of(given)
        breach = least_breach(talk, saying, given=beside)
        if found:
            self.assertEqual(breach, least(found), (terms, term, given))
        else:
            self.assertTrue(breach is None or sum(breach) > most)
        self.assertIs(sure(talk, saying, given=beside), breach is None)
        return bool(found)

    def test_sayings(self):
        chance = random.Random(3)
        done = []
        for at in range(120):
            terms, term = drawn_question(chance, rows=3, layers=1)
            given = drawn_saying(chance, 1) if at % 2 else None
            if given is None or is_question(terms, [term, given]):
                done.append(self.check_saying(terms, term, given, 4 if at % 3 else 12))
        self.assertGreater(done.count(True), 20)
        self.assertGreater(done.count(False), 15)

    def test_needless(self):
        chance = random.Random(4)
        some = 0
        for at in range(60):
            terms, term = drawn_question(chance, blocks=2, rows=4, layers=1)
            given = term if at % 2 else None
            talk, beside = Talk(rows_of(terms)), given and saying_of(given)
            wanted = []
            for number in range(len(numbered(terms))):
                lines = []
                for kept in (talk, talk.without(number)):
                    kept = kept if given is None else Talk([Say(beside)]) + kept
                    lines.append([(line.goes, line.edges) for line in (Line(people).after(kept) for people in range(26))])
                if lines[0] == lines[1]:
                    wanted.append(number)
            found = needless(talk, given=beside)
            self.assertIs(type(found), tuple)
            self.assertEqual(found, tuple(wanted), (terms, given))
            some += bool(wanted) and len(wanted) < len(numbered(terms))
        self.assertGreater(some, 15)


class ByHand(unittest.TestCase):
    def test_known_to_be_alike(self):
        for one, other in (
                ("", "step"), ("", "ask marked >= 0"), ("", "hands silent"), ("", "say common (silent)"),
                ("ask marked >= 2", "ask ~(marked >= 2)"), ("ask marked >= 2\nask plain >= 1", "ask plain >= 1\nask marked >= 2"),
                ("say marked >= 1\nsay plain >= 1", "say (marked >= 1) & (plain >= 1)"),
                ("say marked >= 1\nstep", "say marked >= 1\nask marked >= 2"),
                ("say marked >= 1\nstep", "say marked >= 1\nask silent"),
                ("times 3\nask marked >= 1\nend", "ask marked >= 1"),
                ("if marked >= 1\nsay plain >= 1\nend", "ask marked >= 1\nsay (~(marked >= 1)) | (plain >= 1)"),
                ("if marked >= 1\nend", "ask marked >= 1"),
                ("ask plain by 2 leaves 0", "ask marked by 2 leaves 1"),
                ("say marked by 2 leaves 0", "say ~(marked by 2 leaves 1)")):
            self.assertIs(alike(Talk.read(one), Talk.read(other)), True, (one, other))
            self.assertEqual(partings(Talk.read(one), Talk.read(other)), Crowds.nothing())
            self.assertIsNone(least_parting(Talk.read(one), Talk.read(other)))

    def test_known_to_part(self):
        for one, other, crowds in (
                # Where it goes on behind one alone, and beside these crowds.
                ("", "say marked >= 1", ~Crowds.at_least("marked", 2)),
                # At both ends of an edge.
                ("", "ask marked >= 3", self.with_marked(3) | self.with_marked(2) & Crowds.at_least("plain", 1)),
                ("say marked >= 1\nstep", "say marked >= 1", self.with_marked(2) | self.with_marked(1)
                 & Crowds.at_least("plain", 1)),
                ("say marked >= 1", "say plain >= 1", ~(Crowds.at_least("marked", 2) & Crowds.at_least("plain", 2))
                 - Crowds.of([(0, 0)]))):
            self.assertEqual(partings(Talk.read(one), Talk.read(other)), crowds)
            self.assertEqual(partings(Talk.read(other), Talk.read(one)), crowds)
            self.assertIs(alike(Talk.read(one), Talk.read(other)), False)
            self.assertEqual(least_parting(Talk.read(one), Talk.read(other)), crowds.least)

    def with_marked(self, many):
        return Crowds.at_least("marked", many) - Crowds.at_least("marked", many + 1)

    def test_least(self):
        self.assertEqual(least_parting(Talk(), Talk([Ask(AtLeast("marked", 3))])), (2, 1))
        self.assertEqual(least_parting(Talk(), Talk([Ask(AtLeast("plain", 3))])), (0, 3))
        self.assertEqual(least_parting(Talk([Say(AtLeast("plain", 6))]), Talk([Say(AtLeast("plain", 5))])), (0, 5))
        self.assertEqual(least_breach(Talk([Say(SOME), Step()]), Sure("plain")), (2, 1))
        self.assertEqual(least_breach(Talk(), ~Fact(Crowds.of([(4, 1), (5, 0), (3, 2)]))), (3, 2))

    def test_sure(self):
        talk = Talk([Say(SOME)])
        for saying in (SOME, Common(SOME), everybody(everybody(SOME)), Sure("marked") | Silent() | Sure("plain")):
            self.assertIs(sure(talk, saying), True)
            self.assertIsNone(least_breach(talk, saying))
        self.assertIs(sure(Talk([Say(SOME), Say(~SOME)]), AtLeast("plain", 7)), True)
        self.assertIs(sure(talk, AtLeast("marked", 2)), False)
        self.assertEqual(least_breach(talk, AtLeast("marked", 2)), (1, 0))
        self.assertEqual(least_breach(Talk(), SOME), (0, 0))

    def test_needless(self):
        talk = Talk([Say(SOME), Step(), Ask(AtLeast("marked", 2)), Times(2, [Ask(SOME)]), If(SOME, [], [Step()])])
        # Steps and the question say the same: each is needless as long as the other one is there.
        self.assertEqual(needless(talk), (1, 2, 3, 4, 5, 6))
        self.assertEqual(needless(Talk([Say(SOME), Step()])), ())
        self.assertEqual(needless(Talk([Say(SOME), Step()]), given=SOME), (0,))
        self.assertEqual(needless(Talk([Say(SOME), Step()]), given=~SOME), (1,))
        self.assertEqual(needless(Talk()), ())
        # Among the crowds without marked people no two are beside one another.
        self.assertEqual(needless(Talk([If(SOME, [Ask(AtLeast("marked", 3))], [Ask(AtLeast("plain", 3))])])), (2,))
        self.assertEqual(needless(Talk([If(SOME, [Ask(AtLeast("marked", 1))], [Ask(SOME)])])), (1, 2))


class Given(unittest.TestCase):
    def test_as_if_it_stood_ahead(self):
        chance = random.Random(5)
        for _ in range(40):
            p, q, given = drawn_pair(chance, True)
            one, other, beside = Talk(rows_of(p)), Talk(rows_of(q)), saying_of(given)
            said = [Talk([Say(beside)]) + talk for talk in (one, other)]
            self.assertIs(alike(one, other, given=beside), alike(*said))
            self.assertEqual(partings(one, other, given=beside), partings(*said))
            self.assertEqual(least_parting(one, other, given=beside), least_parting(*said))
            self.assertIs(sure(one, Sure("plain"), given=beside), sure(said[0], Sure("plain")))
            self.assertEqual(least_breach(one, Sure("plain"), given=beside), least_breach(said[0], Sure("plain")))
            self.assertEqual(needless(one, given=beside), tuple(at - 1 for at in needless(said[0]) if at > 0))

    def test_by_hand(self):
        one, other = Talk([Step()]), Talk([Ask(AtLeast("marked", 2))])
        self.assertIs(alike(one, other), False)
        self.assertIs(alike(one, other, given=SOME), True)
        self.assertIs(alike(one, other, given=None), False)
        self.assertIs(sure(Talk(), SOME, given=SOME), True)
        self.assertEqual(least_breach(Talk(), AtLeast("marked", 2), given=SOME), (1, 0))
        self.assertEqual(least_parting(Talk(), one, given=AtLeast("marked", 4)), (4, 1))

    def test_by_its_name_only(self):
        for name, parameters in FUNCTIONS.items():
            found = inspect.signature(vars(module)[name]).parameters
            self.assertEqual(tuple(found), (*parameters, "given"))
            self.assertEqual(found["given"].kind, inspect.Parameter.KEYWORD_ONLY)
            self.assertIsNone(found["given"].default)
        self.assertRaises(TypeError, alike, Talk(), Talk(), SOME)
        self.assertRaises(TypeError, needless, Talk(), SOME)
        self.assertRaises(TypeError, plan, [Step()], SOME, 1, (1, 1), SOME)


class ReachAndPlan(unittest.TestCase):
    def drawn(self, chance):
        while True:
            many, most = chance.randint(1, 3), chance.randint(0, 2)
            terms = tuple(drawn_row(chance, 0, 1) for _ in range(many))
            term = drawn_saying(chance, 1)
            given = drawn_saying(chance, 1) if chance.random() < 0.4 else None
            if is_question(terms * 2, [term] + [given] * (given is not None)):
                return terms, term, most, given

    def first(self, terms, term, most, given, crowd):
        """The first indexes, by trying all talks in the worlds of the crowd."""
        for many in range(most + 1):
            for indexes in itertools.product(range(len(terms)), repeat=many):
                rows = with_given(tuple(terms[index] for index in indexes), given)
                behind = worlds_of(sum(crowd)).after(rows)
                if crowd[0] in behind.where(term):
                    return indexes
        return None

    def test_all_talks_in_all_crowds_of_up_to_three_people(self):
        chance = random.Random(6)
        found = []
        for _ in range(60):
            terms, term, most, given = self.drawn(chance)
            rows, saying, beside = rows_of(terms), saying_of(term), given and saying_of(given)
            crowds = reach(rows, saying, most, given=beside)
            for crowd in all_crowds(3):
                wanted = self.first(terms, term, most, given, crowd)
                self.assertEqual(plan(rows, saying, most, crowd, given=beside), wanted, (terms, term, most, given, crowd))
                self.assertIs(crowd in crowds, wanted is not None)
                found.append(wanted)
        self.assertGreater(len(set(found)), 4)

    def test_more_people(self):
        chance = random.Random(7)
        for _ in range(25):
            terms, term, most, given = self.drawn(chance)
            rows, saying, beside = rows_of(terms), saying_of(term), given and saying_of(given)
            crowds = reach(tuple(rows), saying, most, given=beside)
            for crowd in ((5, 6), (0, 9), (12, 0), (1, 11), (3, 37), (20, 20)):
                found = plan(tuple(rows), saying, most, crowd, given=beside)
                self.assertIs(crowd in crowds, found is not None)
                if found is not None:
                    talk = Talk(([Say(beside)] if beside is not None else []) + [rows[index] for index in found])
                    self.assertIn(crowd[0], Line(sum(crowd)).after(talk).where(saying))

    def test_by_hand(self):
        rows = [Step(), Say(SOME)]
        self.assertEqual(plan(rows, Sure("marked"), 2, (0, 4)), ())
        self.assertEqual(plan(rows, Sure("marked"), 2, (1, 4)), (1,))
        self.assertEqual(plan(rows, Sure("marked"), 2, (2, 4)), (1, 0))
        self.assertIsNone(plan(rows, Sure("marked"), 2, (3, 4)))
        self.assertIsNone(plan(rows, Sure("marked"), 1, (2, 4)))
        self.assertIsNone(plan(rows, Sure("marked"), 0, (1, 4)))
        self.assertEqual(plan(rows, Sure("marked"), 2, (3, 4), given=AtLeast("marked", 2)), (0,))
        self.assertIsNone(plan(rows, Sure("marked"), 2, (1, 4), given=AtLeast("marked", 2)))
        self.assertEqual(str(reach(rows, Sure("marked"), 2)), "[3 0 1 1: + + + -]")
        self.assertEqual(str(reach(rows, Sure("marked"), 0)), "[1 0 1 1: + -]")
        self.assertEqual(str(reach(rows, Sure("marked"), 2, given=AtLeast("marked", 2))), "[5 0 1 1: - - + + + -]")

    def test_shorter_ones_first_then_the_lesser(self):
        ask = [Ask(AtLeast("marked", 1)), Ask(AtLeast("marked", 2)), Hands(SOME)]
        self.assertEqual(plan(ask, Sure("marked"), 2, (1, 3)), (0,))
        self.assertEqual(plan(ask[::-1], Sure("marked"), 2, (1, 3)), (0,))
        self.assertEqual(plan([ask[1], ask[0]], Sure("marked"), 2, (1, 3)), (1,))
        self.assertEqual(plan([ask[1], ask[0]], Sure("plain") & Sure("marked"), 2, (1, 3)), (0, 1))
        self.assertEqual(plan([Step(), ask[1], ask[0]], Sure("plain") & Sure("marked"), 2, (1, 3)), (1, 0))
        self.assertEqual(plan([Step()] * 3, SOME, 2, (1, 1)), ())

    def test_arguments_stay(self):
        rows = [Step(), Say(SOME)]
        texts = [str(row) for row in rows]
        reach(rows, Silent(), 2), plan(rows, Silent(), 2, (2, 2))
        self.assertEqual([str(row) for row in rows], texts)
        self.assertEqual(reach(rows, Silent(), 2), reach(tuple(rows), Silent(), 2))


class Objects(unittest.TestCase):
    def test_by_name(self):
        one, other = Talk([Say(SOME)]), Talk()
        self.assertIs(alike(q=one, given=SOME, p=other), True)
        self.assertEqual(partings(q=one, p=other), partings(one, other))
        self.assertEqual(least_parting(q=one, p=other), (0, 0))
        self.assertIs(sure(saying=SOME, talk=one), True)
        self.assertEqual(least_breach(saying=~SOME, talk=one), (1, 0))
        self.assertEqual(needless(talk=one, given=SOME), (0,))
        self.assertEqual(reach(most=1, saying=SOME, rows=[Step()]), Crowds.at_least("marked", 1))
        self.assertEqual(plan(crowd=(1, 1), most=1, saying=SOME, rows=[Step()]), ())

    def test_kinds_of_values(self):
        one, other = Talk([Say(SOME)]), Talk()
        self.assertIs(type(partings(one, other)), Crowds)
        self.assertIs(type(reach([Step()], SOME, 2)), Crowds)
        self.assertIs(type(least_parting(one, other)), tuple)
        self.assertIs(type(plan([Step()], Silent(), 2, (1, 1))), tuple)
        self.assertIs(type(alike(one, other)), bool)
        self.assertIs(type(sure(one, SOME)), bool)

    def test_alike_is_that_all_is_told_alike(self):
        chance = random.Random(8)
        for _ in range(40):
            p, q, _ = drawn_pair(chance)
            one, other = Talk(rows_of(p)), Talk(rows_of(q))
            self.assertIs(alike(one, other), told(one) == told(other))


class AtTheLimits(unittest.TestCase):
    def test_twelve_rows(self):
        chance = random.Random(9)
        for _ in range(3):
            rows = []
            while len(rows) < 6:
                row = (chance.choice(("ask", "hands")), drawn_great_saying(chance, 1))
                if is_question((*rows, row)):
                    rows.append(row)
            talk = Talk(rows_of(rows) * 2)
            self.assertEqual(len(talk), 12)
            for at in needless(talk):
                self.assertIs(alike(talk, talk.without(at)), True)
            self.assertIs(alike(talk, talk), True)
            self.assertEqual(partings(talk, talk.without(0)), partings(talk.without(0), talk))

    def test_common(self):
        row, other = Hands(Common(SOME) | Rest("plain", 5, 6)), Ask(Knows("plain", Silent()))
        found = reach([row, other, Step()], Sure("marked"), 2)
        for people in (0, 3, 12, 40):
            for marked in range(0, people + 1, 3):
                crowd = (marked, people - marked)
                self.assertIs(crowd in found, plan([row, other, Step()], Sure("marked"), 2, crowd) is not None)


if __name__ == "__main__":
    unittest.main()
