"""Promises [26], [27] and [28], the part of [4] about them, and what [2] and [3] say of them."""

import itertools
import math
import random
import unittest

from foreheads.alike import alike
from foreheads.crowds import Crowds
from foreheads.ever import neutral, parting_line, reach_of, same
from foreheads.lines import Line
from foreheads.sayings import AtLeast, Common, Fact, Knows, Rest, Silent, Sure
from foreheads.talks import Ask, Hands, If, Say, Step, Talk, Times

from terms import (commons_met, common_period, depth_of, drawn_row, drawn_rows, drawn_saying, inner, numbered, parts_of,
                   rows_of, sayings_in)
from words import Stand, all_lines, drawn_line

SOME = AtLeast("marked", 1)
PLAIN = AtLeast("plain", 2)
EVEN = Rest("marked", 0, 2)


def reach_by_words(terms):
    """The reach by the words of [27]."""
    many = 0
    for term in terms:
        if term[0] == "step":
            many += 1
        elif term[0] == "times":
            many += term[1] * reach_by_words(term[2])
        elif term[0] == "hands":
            many += depth_of(term[1]) + 1
        else:
            many += depth_of(term[1])
            if term[0] == "if":
                many += max(reach_by_words(term[2]), reach_by_words(term[3]))
    return many


def starts(term):
    """The greatest start in a saying, counting facts by their least tables."""
    if term[0] == "least":
        return term[2]
    if term[0] == "fact":
        return max(Crowds(*term[1:]).starts)
    return max([starts(part) for part in inner(term)], default=0)


def is_ever_question(*talks):
    """Whether talks are within the limits of [3] for `same`."""
    everything = [term for terms in talks for term in sayings_in(terms)]
    return (all(reach_by_words(terms) <= 3 and not commons_met(terms) and len(numbered(terms)) <= 12 for terms in talks)
            and math.lcm(*[common_period(term) for term in everything]) <= 6
            and all(starts(term) <= 3 and parts_of(term) <= 30 for term in everything))


def drawn_terms(chance):
    while True:
        terms = drawn_rows(chance, 1, chance.randint(0, 3), chance.choice((0, 1, 1, 2)))
        if is_ever_question(terms):
            return terms


def drawn_pair(chance):
    """Two talks, often with the same rows but for one, or with rows that are said otherwise."""
    while True:
        p = drawn_terms(chance)
        q = list(p)
        sort = chance.randint(0, 4)
        if sort == 0:
            q = list(drawn_terms(chance))
        elif sort == 1:
            q.insert(chance.randint(0, len(q)), drawn_row(chance, 0, 0))
        elif sort == 2:
            chance.shuffle(q)
        elif q:
            at = chance.randrange(len(q))
            q[at] = said_otherwise(q[at])
        if is_ever_question(p, q):
            return p, tuple(q)


def said_otherwise(term):
    """A row that does the same whatever was said before."""
    if term[0] == "ask":
        return ("if", ("not", term[1]), (), ())
    if term[0] == "say":
        return ("if", term[1], (), (("say", ("not", ("least", "marked", 0))),))
    if term[0] == "hands":
        return ("hands", ("not", ("not", term[1])))
    if term[0] == "times":
        return ("if", ("least", "plain", 0), term[2] * term[1], ())
    return ("if", ("not", term[1]), term[3], term[2]) if term[0] == "if" else ("times", 1, (term,))


class AgainstLines(unittest.TestCase):
    def check(self, p, q, chance):
        one, other = Talk(rows_of(p)), Talk(rows_of(q))
        line = parting_line(one, other)
        self.assertIs(same(one, other), line is None)
        for people in range(4 if line is None else min(line.people, 4)):
            for stand in all_lines(people):
                self.assertEqual(Line(*stand).after(one), Line(*stand).after(other), (p, q, stand))
        for _ in range(25):
            stand = drawn_line(chance, 12)
            if line is None or stand[0] < line.people:
                self.assertEqual(Line(*stand).after(one), Line(*stand).after(other), (p, q, stand))
        if line is not None:
            self.assertIs(type(line), Line)
            self.assertNotEqual(line.after(one), line.after(other))
            stand = line.people, line.goes, line.edges
            self.assertNotEqual(Stand(*stand).after(p).told(), Stand(*stand).after(q).told())
        return line

    def test_drawn(self):
        chance = random.Random(1)
        found = [self.check(*drawn_pair(chance), chance) for _ in range(220)]
        people = [line.people for line in found if line is not None]
        self.assertGreater(found.count(None), 60)
        self.assertGreater(len([many for many in people if many > 2]), 10)

    def test_both_ways_alike(self):
        chance = random.Random(2)
        for _ in range(40):
            p, q = drawn_pair(chance)
            one, other = Talk(rows_of(p)), Talk(rows_of(q))
            self.assertIs(same(one, other), same(other, one))
            self.assertIs(same(one, one), True)
            lines = parting_line(one, other), parting_line(other, one)
            self.assertEqual(*[line and line.people for line in lines])

    def test_whatever_is_said_ahead(self):
        # Talks that do the same do so behind each talk.
        chance = random.Random(3)
        done = 0
        while done < 25:
            p, q = drawn_pair(chance)
            one, other = Talk(rows_of(p)), Talk(rows_of(q))
            if same(one, other):
                done += 1
                for _ in range(4):
                    ahead = Talk(rows_of(drawn_rows(chance, 0, chance.randint(0, 3), 1)))
                    self.assertIs(alike(ahead + one, ahead + other), True)

    def test_each_line_comes_about(self):
        # A fact may be said in which just its crowds are, then one be asked by which just its other edges are closed.
        chance = random.Random(4)
        for _ in range(60):
            people, goes, edges = drawn_line(chance, 7)
            sort, kept = 0, []
            for marked in goes:
                sort += marked not in edges
                kept.append((marked, sort % 2))
            ahead = Talk([Say(Fact(Crowds.of([(k, people - k) for k in goes]))),
                          Ask(Fact(Crowds.of([(k, people - k) for k, part in kept if part])))])
            self.assertEqual(Line(people).after(ahead), Line(people, goes, edges))

    def test_neutral(self):
        chance = random.Random(5)
        found = []
        for _ in range(120):
            terms = drawn_terms(chance)
            talk = Talk(rows_of(terms))
            found.append(neutral(talk))
            self.assertIs(found[-1], same(talk, Talk()))
            self.assertIs(found[-1], parting_line(Talk(), talk) is None)
            for stand in all_lines(2):
                if found[-1]:
                    self.assertEqual(Line(*stand).after(talk), Line(*stand))
        self.assertGreater(found.count(True), 10)
        self.assertGreater(found.count(False), 10)


class ByHand(unittest.TestCase):
    def test_the_same(self):
        for one, other in (
                ([Ask(SOME)], [Ask(~SOME)]), ([Ask(SOME), Ask(PLAIN)], [Ask(PLAIN), Ask(SOME)]),
                ([Ask(SOME), Ask(SOME)], [Ask(SOME)]), ([Times(9, [Ask(PLAIN)])], [Ask(PLAIN)]),
                ([Say(SOME), Say(PLAIN)], [Say(SOME & PLAIN)]), ([Say(SOME), Ask(PLAIN)], [Ask(PLAIN), Say(SOME)]),
                ([If(SOME, [Say(PLAIN)])], [Ask(SOME), Say(~SOME | PLAIN)]), ([If(PLAIN, [])], [Ask(PLAIN)]),
                ([If(EVEN, [Ask(SOME)], [Ask(SOME)])], [Ask(EVEN), Ask(SOME)]), ([Ask(EVEN)], [Ask(Rest("marked", 1, 2))]),
                ([Ask(Knows("marked", SOME) | Knows("plain", SOME))], [Ask(Knows("plain", SOME) | Knows("marked", SOME))]),
                ([Times(2, [Step()])], [Step(), Step()]), ([Hands(Silent())], [Hands(~~Silent())]),
                ([Say(SOME & ~SOME), Step()], [Say(SOME & ~SOME)]), ([], [Times(3, [])]),
                ([Ask(Sure("marked"))], [Ask(~Sure("marked"))])):
            self.assertIs(same(Talk(one), Talk(other)), True, (list(map(str, one)), list(map(str, other))))
            self.assertIsNone(parting_line(Talk(one), Talk(other)))

    def test_not_the_same(self):
        for one, other, people in (
                ([], [Step()], 2), ([Step()], [Ask(Silent())], 3), ([], [Say(SOME)], 0), ([], [Ask(SOME)], 1),
                ([], [Ask(AtLeast("marked", 3))], 3), ([], [Ask(AtLeast("plain", 3))], 3), ([], [Say(~AtLeast("plain", 3))], 3),
                ([Ask(Rest("marked", 0, 2))], [Ask(Rest("plain", 0, 3))], 2), ([Hands(SOME)], [], 2),
                ([Ask(EVEN)], [Ask(~Rest("plain", 1, 2))], None), ([], [Ask(Rest("marked", 5, 6))], 5),
                ([], [Say(~Fact(Crowds.of([(3, 3)])))], 6), ([], [Ask(Fact(Crowds.of([(0, 3)])))], 3)):
            line = parting_line(Talk(one), Talk(other))
            if people is None:
                self.assertIsNone(line)
                continue
            self.assertEqual(line.people, people, (list(map(str, one)), list(map(str, other))))
            self.assertNotEqual(line.after(Talk(one)), line.after(Talk(other)))
            self.assertIs(same(Talk(one), Talk(other)), False)

    def test_alike_from_the_beginning_but_not_ever(self):
        for one, other in ((Talk(), Talk([Step()])), (Talk(), Talk([Hands(Silent())])), (Talk(), Talk([Ask(Silent())])),
                           (Talk([Say(SOME), Step()]), Talk([Say(SOME), Ask(AtLeast("marked", 2))]))):
            self.assertIs(alike(one, other), True)
            self.assertIs(same(one, other), False)

    def test_neutral(self):
        for rows in ([], [Ask(AtLeast("marked", 0))], [Say(SOME | ~SOME)], [Hands(SOME | ~SOME)], [Hands(SOME & ~SOME)],
                     [If(SOME | ~SOME, [Times(2, [])], [Step()])], [Ask(Knows("plain", ~PLAIN) & Knows("plain", PLAIN) & PLAIN)]):
            self.assertIs(neutral(Talk(rows)), True, list(map(str, rows)))
        for rows in ([Step()], [Ask(SOME)], [Say(SOME)], [Hands(SOME)], [If(SOME, [])], [Ask(Sure("plain"))],
                     [Say(Silent() | ~Silent() & SOME)]):
            self.assertIs(neutral(Talk(rows)), False, list(map(str, rows)))

    def test_crowds_that_part_far_from_both_ends(self):
        # The least crowds of these sets lie behind the starts of both kinds.
        rests = Rest("marked", 0, 2) & Rest("plain", 0, 3) & AtLeast("marked", 3) & AtLeast("plain", 3)
        line = parting_line(Talk(), Talk([Say(~rests)]))
        self.assertEqual(line.people, 7)
        self.assertIn(4, line.goes)
        far = Fact(Crowds((3, 3), (1, 6), ["---------"] * 3 + ["--------+"]))
        self.assertEqual(parting_line(Talk(), Talk([Say(~far)])).people, 11)
        self.assertEqual(parting_line(Talk([Ask(Knows("plain", ~far))]), Talk()).people, 11)


    def test_all_crowds_at_which_three_steps_look(self):
        # The edge in the middle stays open only if all edges of the line are: three steps come from either end to it.
        upper = [(4, 3), (5, 2), (6, 1), (7, 0)]
        rows = ["".join("+" if any(k == here[0] and l == here[1] for here in upper) else "-" for l in range(9))
                for k in range(9)]
        steps = Talk([Step()]) * 3
        line = parting_line(steps, steps + Talk([Ask(Fact(Crowds((3, 3), (6, 6), rows)))]))
        self.assertEqual(line, Line(7))
        line = parting_line(Talk([Times(3, [Step()]), Ask(Fact(Crowds((3, 3), (6, 6), rows)))]), steps)
        self.assertEqual(line, Line(7))

    def test_many_people_of_both_kinds(self):
        rows = ["".join("+" if k == l == 8 else "-" for l in range(9)) for k in range(9)]
        far = Fact(Crowds((3, 3), (6, 6), rows))
        for row in (Say(~far), Ask(far), Hands(~far), If(far, [])):
            line = parting_line(Talk(), Talk([row]))
            self.assertEqual(line.people, 16)
            self.assertIn(8, line.goes)
        self.assertIs(neutral(Talk([Say(~far | AtLeast("marked", 3))])), True)


class Reach(unittest.TestCase):
    def test_drawn(self):
        chance = random.Random(6)
        for _ in range(150):
            terms, more = drawn_rows(chance, 3, chance.randint(0, 4), 3), drawn_rows(chance, 2, 2, 2)
            talk, behind = Talk(rows_of(terms)), Talk(rows_of(more))
            self.assertEqual(reach_of(talk), reach_by_words(terms))
            self.assertEqual(reach_of(talk + behind), reach_of(talk) + reach_of(behind))
            for many in range(10):
                self.assertEqual(reach_of(talk * many), many * reach_of(talk))

    def test_each_row(self):
        deep = Knows("marked", Common(Knows("plain", Silent())))
        for row, many in ((Step(), 1), (Say(SOME), 0), (Ask(Rest("plain", 0, 6)), 0), (Hands(SOME), 1), (Say(Silent()), 1),
                          (Ask(Common(SOME)), 1), (Hands(Sure("plain")), 2), (Say(deep), 4), (Ask(deep), 4), (Hands(deep), 5),
                          (If(SOME, []), 0), (If(deep, []), 4), (If(SOME, [Step()], [Step(), Step()]), 2),
                          (If(Silent(), [Hands(SOME), Hands(deep)], [Step()]), 7), (Times(4, [Step(), Hands(deep)]), 24),
                          (Times(9, []), 0), (Times(2, [If(deep, [Times(3, [Step()])])]), 14),
                          (Say(deep | Silent() & SOME), 4), (Ask(~deep), 4)):
            self.assertEqual(reach_of(Talk([row])), many, str(row))
        self.assertEqual(reach_of(Talk()), 0)


class Objects(unittest.TestCase):
    def test_by_name(self):
        self.assertIs(same(q=Talk([Step()]), p=Talk()), False)
        self.assertEqual(parting_line(q=Talk([Ask(SOME)]), p=Talk()).people, 1)
        self.assertIs(neutral(talk=Talk()), True)
        self.assertEqual(reach_of(talk=Talk([Step()])), 1)

    def test_asked_once_more(self):
        chance = random.Random(7)
        for _ in range(20):
            p, q = drawn_pair(chance)
            one, other = Talk(rows_of(p)), Talk(rows_of(q))
            texts = str(one), str(other)
            first = parting_line(one, other)
            self.assertTrue(first == parting_line(one, other) or None is first is parting_line(one, other))
            self.assertEqual((str(one), str(other)), texts)


class AtTheLimits(unittest.TestCase):
    def test_starts_of_three_a_reach_of_three_and_periods_of_six(self):
        chance = random.Random(8)
        for _ in range(8):
            rows = tuple("".join(chance.choice("+-") for _ in range(9)) for _ in range(9))
            fact = ("fact", (3, 3), (6, 6), rows)
            for term in (("ask", ("knows", "marked", ("knows", "plain", ("knows", "marked", fact)))),
                         ("hands", ("knows", "plain", ("knows", "marked", fact))),
                         ("if", ("knows", "plain", fact), (("hands", ("knows", "marked", fact)),), (("step",), ("step",)))):
                p = (term,)
                self.assertTrue(is_ever_question(p))
                # What is known is known to be known by those who see it; the order of what is asked makes no difference.
                for q in ((said_otherwise(term),), (term, ("ask", ("least", "marked", 0)))):
                    self.assertIs(same(Talk(rows_of(p)), Talk(rows_of(q))), True)
                other = ("fact", (3, 3), (6, 6), (*rows[:8], "".join("-+"[sign == "-"] for sign in rows[8])))
                line = parting_line(Talk(rows_of(p)), Talk(rows_of((("say", other), *p))))
                self.assertNotEqual(line.after(Talk(rows_of(p))), line.after(Talk(rows_of((("say", other), *p)))))

    def test_twelve_rows_of_thirty_parts(self):
        chance = random.Random(9)
        rows = []
        while len(rows) < 11:
            term = ("not", ("least", "marked", 3))
            while parts_of(term) < 26:
                term = (chance.choice("&|^-"), term, drawn_saying(chance, 1, 3))
                if depth_of(term) or not is_ever_question((("ask", term),)):
                    term = ("not", ("least", "marked", 3))
            if is_ever_question((*rows, ("ask", term))):
                rows.append(("ask", term))
        rows = (("hands", ("knows", "plain", ("silent",))), *rows)
        talk = Talk(rows_of(rows))
        self.assertEqual((len(talk), reach_of(talk)), (12, 3))
        self.assertIs(same(talk, Talk(rows_of((rows[0], *rows[:0:-1])))), True)
        for at in range(12):
            line = parting_line(talk.without(at), talk)
            for _ in range(10):
                stand = drawn_line(chance, 12)
                if line is None or stand[0] < line.people:
                    self.assertEqual(Line(*stand).after(talk), Line(*stand).after(talk.without(at)))
            if line is not None:
                self.assertNotEqual(line.after(talk), line.after(talk.without(at)))

    def test_all_starts(self):
        for kind, number in itertools.product(("marked", "plain"), range(1, 4)):
            self.assertEqual(parting_line(Talk(), Talk([Ask(AtLeast(kind, number))])).people, number)
            line = parting_line(Talk(), Talk([Ask(Knows("marked", Knows("plain", Knows("marked", AtLeast(kind, number)))))]))
            for stand in all_lines(line.people - 1):
                self.assertEqual(Line(*stand), Line(*stand).after(
                    Talk([Ask(Knows("marked", Knows("plain", Knows("marked", AtLeast(kind, number)))))])))


if __name__ == "__main__":
    unittest.main()
