"""Promises [15], [16] and [17], and what [2] and [3] say of lines."""

import itertools
import random
import unittest

from foreheads.crowds import Crowds
from foreheads.errors import InvalidLine
from foreheads.lines import Line
from foreheads.sayings import AtLeast, Common, Fact, Knows, Rest, Silent, Sure, everybody, somebody
from foreheads.talks import Ask, Hands, If, Say, Step, Talk, Times

from samples import any_values, is_integer, is_number
from terms import (KINDS, depth_of, drawn_great_saying, drawn_row, drawn_rows, drawn_saying, parts_of, row_of, rows_of,
                   saying_of)
from words import Stand, all_lines, drawn_line
from worlds import worlds_of

SOME = AtLeast("marked", 1)
BOTH = AtLeast("marked", 1) & AtLeast("plain", 1)


def told(line):
    return line.people, line.goes, line.edges


class Making(unittest.TestCase):
    def test_beginning(self):
        for people in (0, 1, 2, 5, 40):
            wanted = (people, tuple(range(people + 1)), tuple(range(1, people + 1)))
            self.assertEqual(told(Line(people)), wanted)
            self.assertEqual(told(Line(people, None, None)), wanted)
        self.assertEqual(told(Line(0)), (0, (0,), ()))

    def test_all_open_edges_between_crowds_that_go_on(self):
        self.assertEqual(told(Line(6, [0, 1, 3, 4, 5])), (6, (0, 1, 3, 4, 5), (1, 4, 5)))
        self.assertEqual(told(Line(6, [0, 2, 4])), (6, (0, 2, 4), ()))
        self.assertEqual(told(Line(6, [])), (6, (), ()))
        self.assertEqual(told(Line(3, None, [2])), (3, (0, 1, 2, 3), (2,)))
        self.assertEqual(told(Line(3, None, ())), (3, (0, 1, 2, 3), ()))

    def test_any_order_and_twice(self):
        for kind, other in itertools.product((list, tuple), repeat=2):
            line = Line(5, kind([4, 0, 5, 4, 1, 0]), other([5, 1, 5]))
            self.assertEqual(told(line), (5, (0, 1, 4, 5), (1, 5)))
            for value in (line.goes, line.edges):
                self.assertIs(type(value), tuple)

    def test_by_name(self):
        self.assertEqual(told(Line(edges=[2], goes=[2, 1], people=2)), (2, (1, 2), (2,)))
        line = Line(people=2)
        self.assertEqual(line.where(saying=SOME), (1, 2))
        self.assertEqual(line.after(talk=Talk([Say(SOME)])).goes, (1, 2))

    def test_attributes_are_set_when_created(self):
        for line in (Line(2), Line(2, [1]), Line(2).after(Talk([Step()]))):
            self.assertEqual(set(vars(line)), {"people", "goes", "edges"})

    def test_arguments_that_change_later(self):
        goes, edges = [2, 0, 1], [2]
        line = Line(3, goes, edges)
        goes.append(3)
        edges[0] = 1
        self.assertEqual(told(line), (3, (0, 1, 2), (2,)))
        self.assertEqual((goes, edges), ([2, 0, 1, 3], [1]))
        self.assertEqual(line.after(Talk()), line)

    def test_equality(self):
        lines = [row for people in (0, 1, 2) for row in all_lines(people)]
        for one, other in itertools.product(lines, repeat=2):
            self.assertIs(Line(*one) == Line(*other), one == other)
            self.assertIs(Line(*one) != Line(*other), one != other)

    def test_equal_to_nothing_else(self):
        for line in (Line(0), Line(2)):
            for value in any_values() + [told(line), list(told(line))]:
                if not isinstance(value, Line):
                    self.assertIs(line == value, False)
                    self.assertIs(line != value, True)
                    self.assertIs(value == line, False)

    def test_not_iterable(self):
        for line in (Line(0), Line(3)):
            self.assertRaises(TypeError, iter, line)
            self.assertRaises(TypeError, list, line)
            with self.assertRaises(TypeError):
                1 in line


class WrongLines(unittest.TestCase):
    def word(self, *values):
        with self.assertRaises(InvalidLine) as caught:
            Line(*values)
        return caught.exception.word

    def test_people(self):
        for value in any_values():
            if not is_number(value):
                self.assertEqual(self.word(value), "people")
                self.assertEqual(self.word(value, [], []), "people")
                self.assertEqual(self.word(value, "x", [None]), "people")
            elif value <= 40:
                self.assertEqual(Line(value).people, value)

    def is_from(self, value, lowest, highest):
        return isinstance(value, (list, tuple)) and all(is_integer(part) and lowest <= part <= highest for part in value)

    def test_goes(self):
        for value, people in itertools.product(any_values(), (0, 1, 3)):
            if value is None or self.is_from(value, 0, people):
                wanted = tuple(range(people + 1)) if value is None else tuple(sorted(set(value)))
                self.assertEqual(Line(people, value).goes, wanted)
            else:
                for edges in (None, (), [-1], "x"):
                    self.assertEqual(self.word(people, value, edges), "goes")

    def test_any_value_in_goes(self):
        for value in any_values():
            if not self.is_from([value], 0, 3):
                self.assertEqual(self.word(3, [value]), "goes")
                self.assertEqual(self.word(3, (0, 1, value)), "goes")
                self.assertEqual(self.word(3, (value, 2, 1), [2]), "goes")

    def test_edges(self):
        for value, goes in itertools.product(any_values(), (None, (0, 1, 2, 3), [1, 3, 0], ())):
            there = (0, 1, 2, 3) if goes is None else goes
            between = [k for k in range(1, 4) if k in there and k - 1 in there]
            if value is None:
                self.assertEqual(Line(3, goes, value).edges, tuple(between))
            elif self.is_from(value, 1, 3) and all(edge in between for edge in value):
                self.assertEqual(Line(3, goes, value).edges, tuple(sorted(set(value))))
            else:
                self.assertEqual(self.word(3, goes, value), "edges")

    def test_any_value_in_edges(self):
        for value in any_values():
            if not self.is_from([value], 1, 3):
                self.assertEqual(self.word(3, None, [value]), "edges")
                self.assertEqual(self.word(3, [2, 1, 0, 3], (1, value)), "edges")

    def test_edges_at_crowds_where_it_does_not_go_on(self):
        for goes, edges in (([0, 2], [1]), ([0, 2], [2]), ([1], [1]), ([1], [2]), ([0, 1, 3], [1, 2]),
                            ([0, 1, 3], (3, 1)), ([], [1])):
            self.assertEqual(self.word(3, goes, edges), "edges")
        for edge in (0, 4, -1, 10 ** 30):
            self.assertEqual(self.word(3, None, [edge]), "edges")
        self.assertEqual(self.word(0, None, [1]), "edges")
        self.assertEqual(self.word(0, None, [0]), "edges")

    def test_bools(self):
        self.assertEqual(self.word(True), "people")
        self.assertEqual(self.word(2, [True]), "goes")
        self.assertEqual(self.word(2, [False, 1]), "goes")
        self.assertEqual(self.word(2, None, [True]), "edges")


class AgainstWorlds(unittest.TestCase):
    """Each line against all sets of marked people, person by person."""

    def check_after(self, stand, terms):
        line = Line(*stand)
        found = line.after(Talk(rows_of(terms)))
        self.assertEqual(told(found)[1:], worlds_of(*stand).after(terms).line(), (stand, terms))
        self.assertEqual(found.people, stand[0])
        self.assertEqual(told(line), stand)
        return found

    def test_where(self):
        chance = random.Random(17)
        for _ in range(900):
            stand, term = drawn_line(chance), drawn_saying(chance, 3)
            self.assertEqual(Line(*stand).where(saying_of(term)), worlds_of(*stand).where(term), (stand, term))

    def test_simple_sayings_on_all_lines(self):
        terms = [("least", kind, number) for kind in KINDS for number in (0, 1, 2)]
        terms += [("rest", kind, 1, 2) for kind in KINDS] + [("sure", kind) for kind in KINDS] + [("silent",)]
        terms += [("fact", (1, 1), (1, 2), ("+--", "--+"))]
        terms += [("knows", kind, term) for kind in KINDS for term in terms[1:]] + [("common", term) for term in terms]
        for people in range(4):
            for stand in all_lines(people):
                for term in terms:
                    self.assertEqual(Line(*stand).where(saying_of(term)), worlds_of(*stand).where(term), (stand, term))

    def test_each_sort_of_row(self):
        chance = random.Random(18)
        for _ in range(250):
            stand, term = drawn_line(chance), drawn_saying(chance, 2)
            for head in ("say", "ask", "hands"):
                self.check_after(stand, [(head, term)])
            self.check_after(stand, [("step",)])
            rows, others = drawn_rows(chance, 0, 2), drawn_rows(chance, 0, 2)
            self.check_after(stand, [("if", term, rows, others)])
            self.check_after(stand, [("times", chance.randint(1, 4), rows)])

    def test_hands_and_steps_on_all_lines(self):
        terms = [("least", kind, number) for kind in KINDS for number in (1, 2)] + [("rest", "marked", 0, 3)]
        terms += [("sure", "marked"), ("knows", "plain", ("least", "marked", 1))]
        # Of two crowds in the middle alone others learn by both kinds at once.
        terms += [("&", terms[0], terms[2]), ("-", terms[0], terms[1]), ("fact", (3, 0), (1, 1), tuple("-++-"))]
        for people in range(5):
            for stand in all_lines(people):
                self.check_after(stand, [("step",)])
                for term in terms:
                    self.check_after(stand, [("hands", term)])

    def test_talks_with_blocks(self):
        chance = random.Random(19)
        for _ in range(250):
            self.check_after(drawn_line(chance), drawn_rows(chance, 3, chance.randint(0, 3)))

    def test_row_after_row(self):
        chance = random.Random(20)
        for _ in range(150):
            stand, terms = drawn_line(chance), drawn_rows(chance, 2, 3)
            line = Line(*stand)
            for term in terms:
                line = line.after(Talk([row_of(term)]))
            self.assertEqual(line, Line(*stand).after(Talk(rows_of(terms))))

    def test_everybody_and_somebody(self):
        chance = random.Random(21)
        for _ in range(150):
            stand, term = drawn_line(chance), drawn_saying(chance, 1)
            everyone, someone = everybody(saying_of(term)), somebody(saying_of(term))
            worlds = worlds_of(*stand)
            knowing = {world: [worlds.know(person, world, lambda other: worlds.holds(term, other))
                               for person in range(stand[0])] for world in worlds.worlds}
            self.assertEqual(Line(*stand).where(everyone), worlds.told([w for w in worlds.worlds if all(knowing[w])]))
            self.assertEqual(Line(*stand).where(someone), worlds.told([w for w in worlds.worlds if any(knowing[w])]))


class ByHand(unittest.TestCase):
    def test_example(self):
        line = Line(4).after(Talk([Say(AtLeast("marked", 1)), Step()]))
        self.assertEqual(
            (line.goes, line.edges, line.where(Sure("marked")), Line(3).after(Talk([Hands(AtLeast("plain", 1))])).edges),
            ((1, 2, 3, 4), (3, 4), (1, 2), (1,)))

    def test_nobody(self):
        line = Line(0)
        for saying in (Sure("marked"), Sure("plain"), Silent(), Knows("marked", SOME), Knows("plain", SOME),
                       AtLeast("marked", 0), Rest("plain", 0, 3), Common(Silent()), Fact(Crowds.of([(0, 0)])), ~SOME):
            self.assertEqual(line.where(saying), (0,))
        for saying in (SOME, BOTH, Common(SOME), Rest("marked", 1, 2), Fact(Crowds.of([(0, 1)])), ~Silent()):
            self.assertEqual(line.where(saying), ())
        for row in (Ask(SOME), Hands(SOME), Step(), Say(~SOME), If(SOME, [Step()]), Times(9, [Step()])):
            self.assertEqual(line.after(Talk([row])), line)
        self.assertEqual(told(line.after(Talk([Say(SOME)]))), (0, (), ()))

    def test_one_person(self):
        line = Line(1)
        self.assertEqual(line.where(Silent()), (0, 1))
        self.assertEqual(line.where(Sure("marked")), (0,))
        self.assertEqual(line.where(Sure("plain")), (1,))
        self.assertEqual(line.where(Knows("marked", SOME)), (0,))
        self.assertEqual(told(line.after(Talk([Say(SOME)]))), (1, (1,), ()))
        self.assertEqual(line.after(Talk([Say(SOME)])).where(Silent()), ())
        # Alone, one learns nothing from what one does oneself.
        for row in (Step(), Hands(SOME), Hands(AtLeast("plain", 0)), Times(9, [Step()])):
            self.assertEqual(line.after(Talk([row])), line)
        self.assertEqual(line.after(Talk([Ask(SOME)])).edges, ())

    def test_hands_of_somebody_marked(self):
        # Whoever sees a mark lifts a hand: one marked person alone sees none, and learns it from the others' hands.
        for people in (2, 3, 6, 40):
            line = Line(people).after(Talk([Hands(SOME)]))
            self.assertEqual(line.edges, tuple(range(3, people + 1)))
            self.assertEqual(line.goes, tuple(range(people + 1)))
            self.assertEqual(Line(people).after(Talk([Hands(Sure("marked"))])), Line(people))

    def test_some_are_marked_then_steps(self):
        for people, rounds in itertools.product((1, 2, 7, 39, 40), range(10)):
            line = Line(people).after(Talk([Say(SOME)]) + rounds * Talk([Step()]))
            self.assertEqual(line.goes, tuple(range(1, people + 1)))
            self.assertEqual(line.edges, tuple(range(rounds + 2, people + 1)))
            self.assertEqual(line.where(Sure("marked")), tuple(range(1, min(rounds + 1, people) + 1)))
            self.assertEqual(line.where(Silent()), tuple(range(rounds + 2, people + 1)))

    def test_both_kinds_then_steps(self):
        for people, rounds in itertools.product((2, 3, 8, 40), range(10)):
            line = Line(people).after(Talk([Say(BOTH), Times(rounds, [Step()])] if rounds else [Say(BOTH)]))
            self.assertEqual(line.goes, tuple(range(1, people)))
            self.assertEqual(line.edges, tuple(range(rounds + 2, people - rounds)))

    def test_rests_asked(self):
        for people, period, rest in itertools.product((1, 5, 40), (1, 2, 3, 6), range(6)):
            if rest < period:
                asked = Line(people).after(Talk([Ask(Rest("marked", rest, period))]))
                self.assertEqual(asked.goes, tuple(range(people + 1)))
                self.assertEqual(asked.edges, tuple(
                    k for k in range(1, people + 1) if (k % period == rest) == ((k - 1) % period == rest)))

    def test_common_knowledge_of_steps(self):
        # Common knowledge goes as far as open edges do.
        line = Line(40).after(Talk([Ask(AtLeast("marked", 20))]))
        self.assertEqual(line.edges, (*range(1, 20), *range(21, 41)))
        self.assertEqual(line.where(Common(AtLeast("marked", 20))), tuple(range(20, 41)))
        self.assertEqual(line.where(Common(AtLeast("marked", 21))), ())
        self.assertEqual(line.where(Common(AtLeast("plain", 21))), tuple(range(20)))
        self.assertEqual(Line(40).where(Common(AtLeast("plain", 0))), tuple(range(41)))

    def test_two_ways(self):
        talk = Talk([If(AtLeast("marked", 20), [Say(AtLeast("marked", 22)), Step()], [Ask(Rest("plain", 0, 2))])])
        line = Line(40).after(talk)
        self.assertEqual(line.goes, (*range(20), *range(22, 41)))
        self.assertEqual(line.edges, tuple(range(24, 41)))

    def test_where_only_in_crowds_where_it_goes_on(self):
        line = Line(5, [1, 2, 5], [2])
        self.assertEqual(line.where(AtLeast("marked", 0)), (1, 2, 5))
        self.assertEqual(line.where(~SOME), ())
        self.assertEqual(line.where(Sure("plain")), (2, 5))
        self.assertEqual(line.where(Sure("marked")), (1, 5))
        self.assertEqual(line.where(Silent()), ())
        self.assertEqual(Line(5, []).where(Silent()), ())


class AtTheLimits(unittest.TestCase):
    """The sizes of [3], against the words of [17] crowd by crowd."""

    def check(self, people, terms, saying):
        line, wanted = Line(people).after(Talk(rows_of(terms))), Stand(people).after(terms)
        self.assertEqual(told(line), wanted.told())
        self.assertEqual(line.where(saying_of(saying)), wanted.where(saying))

    def test_the_words_are_those_of_the_worlds(self):
        chance = random.Random(22)
        for _ in range(150):
            stand, terms = drawn_line(chance), drawn_rows(chance, 2, 2)
            self.assertEqual(Stand(*stand).after(terms).told()[1:], worlds_of(*stand).after(terms).line())

    def test_great_sayings_on_long_lines(self):
        chance = random.Random(23)
        for _ in range(25):
            saying = drawn_great_saying(chance, 2)
            self.assertEqual(depth_of(saying), 4)
            self.assertLessEqual(parts_of(saying), 30)
            goes = [k for k in range(41) if chance.random() < 0.9]
            edges = [k for k in goes if k - 1 in goes and chance.random() < 0.9]
            self.assertEqual(Line(40, goes, edges).where(saying_of(saying)), Stand(40, goes, edges).where(saying))

    def test_twelve_rows(self):
        chance = random.Random(24)
        for _ in range(25):
            terms = (("say", ("&", ("least", "marked", 1), ("least", "plain", 1))),)
            terms += tuple((head, drawn_great_saying(chance)) for head in ("ask", "hands", "say", "ask"))
            self.check(40, terms + (("times", 3, (("step",), ("hands", ("least", "plain", 2)))),) + terms[-1:],
                       drawn_great_saying(chance, 2))

    def test_blocks_three_deep(self):
        chance = random.Random(25)
        for _ in range(40):
            self.check(chance.choice((7, 39, 40)), drawn_rows(chance, 3, 3, 2, 6), drawn_saying(chance, 3, 6))

    def test_rows_of_blocks_within_one_another(self):
        chance = random.Random(26)
        for _ in range(40):
            term = ("if", ("least", "marked", 2), (("times", 2, (drawn_row(chance, 1),)),), drawn_rows(chance, 2, 2))
            stand = drawn_line(chance, 4)
            self.assertEqual(told(Line(*stand).after(Talk([row_of(term)])))[1:], worlds_of(*stand).after([term]).line())


if __name__ == "__main__":
    unittest.main()
