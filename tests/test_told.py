"""Promise [19], the first part of [4], and what [2] and [3] say of them."""

import itertools
import random
import unittest

from foreheads.crowds import Crowds
from foreheads.errors import NoRow
from foreheads.lines import Line
from foreheads.sayings import AtLeast, Common, Knows, Rest, Silent, Sure
from foreheads.talks import Ask, Hands, If, Say, Step, Talk, Times
from foreheads.told import Told, told

from samples import all_crowds, any_values
from terms import (all_lines, commons_met, commons_of, depth_of, drawn_great_saying, drawn_question, is_question, numbered,
                   parts_of, row_of, rows_of, saying_of)
from words import Stand
from worlds import Said, worlds_of

SOME = AtLeast("marked", 1)
BOTH = AtLeast("marked", 1) & AtLeast("plain", 1)
EDGES = Crowds.at_least("marked", 1)


def questions(many, seed, *, wanted=lambda terms, term: True, **sizes):
    """So many drawn talks with sayings."""
    chance = random.Random(seed)
    found = []
    while len(found) < many:
        terms, term = drawn_question(chance, **sizes)
        if wanted(terms, term):
            found.append((terms, term))
    return found


def has_common(terms, term):
    return commons_met(terms) + commons_of(term) > 0


class AgainstLines(unittest.TestCase):
    """The sets of all crowds against the lines of few people."""

    def check(self, terms, term, most=14):
        talk, saying = Talk(rows_of(terms)), saying_of(term)
        found = told(talk)
        where = found.where(saying)
        for people in range(most + 1):
            line = Line(people).after(talk)
            self.assertEqual(found.goes.marked_in(people), line.goes, (terms, people))
            self.assertEqual(found.edges.marked_in(people), line.edges, (terms, people))
            self.assertEqual(where.marked_in(people), line.where(saying), (terms, term, people))
        return found

    def test_drawn(self):
        for terms, term in questions(150, 1):
            self.check(terms, term)

    def test_common(self):
        for terms, term in questions(120, 2, wanted=has_common):
            self.check(terms, term)

    def test_common_twice(self):
        for terms, term in questions(60, 3, wanted=lambda terms, term: commons_met(terms) + commons_of(term) == 2):
            self.check(terms, term, 20)

    def test_greater_numbers(self):
        for terms, term in questions(60, 4, number=6, layers=3, blocks=3):
            self.check(terms, term, 20)

    def test_one_row(self):
        for terms, term in questions(200, 5, rows=1, blocks=1):
            self.check(terms, term, 10)

    def test_common_knowledge_that_hangs_on_how_long_the_line_is(self):
        # In the middle of long lines all edges are closed: from one end of short lines one comes to the other end.
        for number, say in itertools.product((3, 6), ((), (("ask", ("least", "plain", 1)),), (("say", ("least", "marked", 1)),))):
            middle = ("&", ("least", "marked", number), ("least", "plain", number))
            for goal in (("least", "marked", 1), ("least", "plain", 1), ("least", "plain", 2), ("least", "marked", 4)):
                self.check((*say, ("ask", middle)), ("common", goal), 24)
                self.check((("if", middle, (("ask", ("rest", "marked", 0, 2)),), ()), ("say", ("common", goal))), goal, 24)
                for period in (2, 3, 6):
                    rest = ("&", ("rest", "plain", 1, period), ("rest", "marked", 0, period))
                    self.check((*say, ("ask", ("&", middle, rest))), ("common", goal), 24)
                    self.check((*say, ("hands", ("common", goal)), ("ask", rest)), ("common", ("not", rest)), 24)


    def test_starts_that_no_row_may_miss(self):
        # Each row looks a crowd farther than what stands ahead of it goes round from.
        rows = [("hands", ("least", "marked", 6)), ("hands", ("least", "plain", 6)), ("ask", ("least", "marked", 6)),
                ("ask", ("least", "plain", 6)), ("say", ("least", "marked", 6)), ("say", ("least", "plain", 6)),
                ("step",), ("hands", ("rest", "marked", 0, 2)), ("hands", ("rest", "plain", 0, 2)), ("hands", ("silent",)),
                ("if", ("least", "plain", 6), (("step",),), (("hands", ("rest", "marked", 1, 2)),))]
        for terms in itertools.product(rows, repeat=2):
            for term in (("knows", "plain", ("silent",)), ("knows", "marked", ("rest", "plain", 1, 2))):
                self.check(terms, term, 15)
        for first, last in itertools.product(rows[:6], rows):
            self.check((first, ("step",), last, ("times", 2, (last,))), ("sure", "plain"), 20)


class AgainstWorlds(unittest.TestCase):
    """The sets of all crowds against all sets of marked people, person by person."""

    def test_up_to_four_people(self):
        for terms, term in questions(90, 6):
            found = told(Talk(rows_of(terms)))
            where = found.where(saying_of(term))
            for people in range(5):
                behind = worlds_of(people).after(terms)
                self.assertEqual((found.goes.marked_in(people), found.edges.marked_in(people)), behind.line(), terms)
                self.assertEqual(where.marked_in(people), behind.where(term), (terms, term))


class FarCrowds(unittest.TestCase):
    """Great crowds against the line of a near crowd that leaves the same rests by six."""

    NEAR = [(30, 31), (34, 29), (3, 38), (0, 36), (38, 2), (37, 0), (1, 40), (33, 6)]

    def check(self, terms, term):
        talk, saying = Talk(rows_of(terms)), saying_of(term)
        found = told(talk)
        sets = found.goes, found.edges, found.where(saying)
        if max(start for crowds in sets for start in crowds.starts) > 28:
            return False
        for marked, plain in self.NEAR:
            line = Line(marked + plain).after(talk)
            wanted = [marked in line.goes, marked in line.edges, marked in line.where(saying)]
            for many in (0, 1, 5, 10 ** 9, 10 ** 20 // 6):
                for up, along in ((6 * many, 0), (0, 6 * many), (6 * many, 6 * many), (6 * many, 6)):
                    crowd = (marked + (up if marked > 28 else 0), plain + (along if plain > 28 else 0))
                    self.assertEqual([crowd in crowds for crowds in sets], wanted, (terms, term, crowd))
        return True

    def test_drawn(self):
        done = [self.check(*question) for question in questions(60, 7)]
        self.assertGreater(done.count(True), 40)

    def test_common(self):
        done = [self.check(*question) for question in questions(60, 8, wanted=has_common)]
        self.assertGreater(done.count(True), 40)


class ByHand(unittest.TestCase):
    def test_overview(self):
        after = told(Talk.read("say marked >= 1\nstep\nstep"))
        self.assertEqual(((3, 2) in after.where(Sure("marked")), (4, 2) in after.where(Sure("marked"))), (True, False))

    def test_example(self):
        t = told(Talk.read("say marked >= 1\nask plain by 2 leaves 0"))
        self.assertEqual((str(t.goes), str(t.edges), str(t.where(Knows("marked", AtLeast("plain", 1)))),
                          t.where(Common(AtLeast("marked", 1))) == t.goes),
                         ("[1 0 1 1: - +]", "[0 0 1 1: -]", "[1 1 1 1: -- -+]", True))

    def test_no_rows(self):
        found = told(Talk())
        self.assertEqual((found.goes, found.edges), (Crowds.every(), EDGES))
        self.assertEqual(found.where(Silent()), Crowds.every())
        self.assertEqual(found.where(Sure("marked")), ~Crowds.at_least("marked", 1))
        self.assertEqual(found.where(Sure("plain")), ~Crowds.at_least("plain", 1))
        self.assertEqual(found.where(SOME), Crowds.at_least("marked", 1))
        self.assertEqual(str(found.where(Knows("marked", SOME))), "[2 0 1 1: + - +]")
        self.assertEqual(found.where(Common(SOME)), Crowds.nothing())
        self.assertEqual(found.where(Common(Rest("plain", 0, 1))), Crowds.every())
        self.assertEqual(told(Talk([Times(3, []), If(SOME, [])])).goes, Crowds.every())

    def test_steps(self):
        for rounds in range(10):
            found = told(Talk([Say(SOME)]) + rounds * Talk([Step()]))
            self.assertEqual(found.goes, Crowds.at_least("marked", 1))
            self.assertEqual(found.edges, Crowds.at_least("marked", rounds + 2))
            self.assertEqual(found.where(Silent()), Crowds.at_least("marked", rounds + 2))
            self.assertEqual(found.where(Common(SOME)), found.goes)
            self.assertEqual(found.where(Sure("plain")),
                             found.goes - (Crowds.at_least("marked", rounds + 1) & Crowds.at_least("plain", 1)))

    def test_both_kinds_then_steps(self):
        found = told(Talk([Say(BOTH), Times(3, [Step()])]))
        self.assertEqual(str(found.goes), "[1 1 1 1: -- -+]")
        self.assertEqual(found.edges, Crowds.at_least("marked", 5) & Crowds.at_least("plain", 4))

    def test_rests_asked(self):
        for period, rest in itertools.product((2, 3, 6), range(6)):
            if rest < period:
                found = told(Talk([Ask(Rest("marked", rest, period))]))
                closed = Crowds.leaving("marked", rest, period) | Crowds.leaving("marked", rest + 1, period)
                self.assertEqual(found.edges, EDGES - closed)
                self.assertEqual(found.where(Common(~Rest("marked", rest, period))),
                                 ~Crowds.leaving("marked", rest, period))

    def test_hands(self):
        found = told(Talk([Hands(SOME)]))
        self.assertEqual(str(found.edges), "[3 1 1 1: -- +- -- ++]")
        self.assertEqual(str(found.goes), "[0 0 1 1: +]")

    def test_two_ways(self):
        found = told(Talk([If(SOME, [Say(AtLeast("marked", 3)), Step()], [Ask(Rest("plain", 0, 2))])]))
        self.assertEqual(str(found.goes), "[3 0 1 1: + - - +]")
        self.assertEqual(found.edges, Crowds.at_least("marked", 5))

    def test_nowhere(self):
        found = told(Talk([Say(SOME & ~SOME), Step()]))
        self.assertEqual((found.goes, found.edges), (Crowds.nothing(), Crowds.nothing()))
        self.assertEqual(found.where(Silent()), Crowds.nothing())
        self.assertEqual((found.stops(0), found.comes(1), found.stops(1)),
                         (Crowds.every(), Crowds.nothing(), Crowds.nothing()))


class StopsAndComes(unittest.TestCase):
    def check(self, terms, most=7):
        found = told(Talk(rows_of(terms)))
        many = len(numbered(terms))
        stops, comes = [found.stops(at) for at in range(many)], [found.comes(at) for at in range(many)]
        for crowd in all_crowds(most):
            come_to, stop = [], None
            try:
                Stand(sum(crowd)).heard(terms, crowd[0], 0, come_to)
            except Said as error:
                stop = error.args[0]
            self.assertEqual([at for at in range(many) if crowd in stops[at]], [] if stop is None else [stop], terms)
            self.assertEqual([at for at in range(many) if crowd in comes[at]], sorted(set(come_to)), terms)
            self.assertIs(crowd in found.goes, stop is None)
        if many:
            self.assertEqual(comes[0], Crowds.every())
        for at, term in enumerate(numbered(terms)):
            if term[0] != "say":
                self.assertEqual(stops[at], Crowds.nothing())
        return found

    def test_drawn(self):
        for terms, _ in questions(60, 9, rows=4):
            self.check(terms)

    def test_blocks(self):
        for terms, _ in questions(40, 10, blocks=3, wanted=lambda terms, _: any(
                term[0] == "times" for row in terms for term in numbered(row[2] if row[0] in ("if", "times") else ()))):
            self.check(terms)

    def test_common(self):
        for terms, _ in questions(25, 11, wanted=lambda terms, _: commons_met(terms) > 0):
            self.check(terms)

    def test_up_to_ten_people(self):
        say = ("say", ("silent",))
        for terms in ((("say", ("least", "marked", 1)), ("times", 4, (say, ("step",)))),
                      (("if", ("least", "marked", 3), (("times", 2, (say, ("step",))),), (("step",), say)), ("step",)),
                      (("times", 2, (("if", ("rest", "plain", 1, 2), (say,), (("hands", ("least", "marked", 2)), say)),)),)):
            self.check(terms, 10)

    def test_in_which_round_makes_no_difference(self):
        found = told(Talk([Say(SOME), Times(4, [Say(Silent()), Step()])]))
        # Words and steps tell, in each round, that there is one marked person more.
        self.assertEqual(found.comes(2), Crowds.at_least("marked", 1))
        self.assertEqual(found.comes(3), Crowds.at_least("marked", 2))
        self.assertEqual(found.stops(2), Crowds.at_least("marked", 1) - Crowds.at_least("marked", 8))
        self.assertEqual(found.goes, Crowds.at_least("marked", 8))
        self.assertEqual(found.stops(0), ~Crowds.at_least("marked", 1))

    def test_no_row(self):
        for terms, _ in questions(15, 12):
            found = told(Talk(rows_of(terms)))
            many = len(numbered(terms))
            for at in (-1, -many, -many - 1, many, many + 1, 10 ** 30, -10 ** 30):
                if not 0 <= at < many:
                    for call in (found.stops, found.comes):
                        with self.assertRaises(NoRow) as caught:
                            call(at)
                        self.assertEqual(caught.exception.at, at)
        self.assertRaises(NoRow, told(Talk()).comes, 0)


class Objects(unittest.TestCase):
    def test_equality(self):
        talks = ["", "step", "ask marked >= 1", "hands marked >= 1", "say marked >= 1", "say marked >= 1\nstep",
                 "say marked >= 1\nask marked >= 2", "say marked >= 1\nask silent", "times 3\nask marked >= 1\nend",
                 "ask ~(marked >= 1)", "if marked >= 1\nelse\nstep\nend", "say silent", "say marked >= 0",
                 "ask plain by 2 leaves 0", "ask plain by 2 leaves 1", "ask marked by 2 leaves 0"]
        kept = [told(Talk.read(text)) for text in talks]
        again = [told(Talk.read(text)) for text in talks]
        for one, other in itertools.product(kept, again):
            same = one.goes == other.goes and one.edges == other.edges
            self.assertIs(one == other, same)
            self.assertIs(one != other, not same)
        self.assertEqual(kept[0], kept[1])
        self.assertEqual(kept[5], kept[6])
        self.assertEqual(kept[5], kept[7])
        self.assertNotEqual(kept[4], kept[5])
        self.assertEqual(kept[13], kept[14])
        # Goes alike, but with other edges.
        self.assertEqual(kept[2].goes, kept[0].goes)
        self.assertNotEqual(kept[2], kept[0])

    def test_equal_to_nothing_else(self):
        found = told(Talk())
        for value in any_values() + [(found.goes, found.edges), Crowds.every(), Talk()]:
            self.assertIs(found == value, False)
            self.assertIs(found != value, True)
            self.assertIs(value == found, False)

    def test_asked_once_more(self):
        for terms, term in questions(12, 13):
            talk, saying = Talk(rows_of(terms)), saying_of(term)
            texts = str(talk), str(saying)
            found = told(talk)
            first = str(found.goes), str(found.edges), str(found.where(saying))
            stops = [str(found.stops(at)) + str(found.comes(at)) for at in range(len(talk))]
            found.wait(), found.far(saying), told(Talk([Step()])), found.where(Silent())
            self.assertEqual((str(found.goes), str(found.edges), str(found.where(saying))), first)
            self.assertEqual([str(found.stops(at)) + str(found.comes(at)) for at in range(len(talk))], stops)
            self.assertEqual(told(talk), found)
            self.assertEqual((str(talk), str(saying)), texts)

    def test_by_name(self):
        found = told(talk=Talk([Say(SOME)]))
        self.assertEqual(found.where(saying=SOME), found.goes)
        self.assertEqual(found.stops(at=0), ~found.goes)
        self.assertEqual(found.comes(at=0), Crowds.every())
        self.assertEqual(found.far(saying=SOME).never, found.goes)

    def test_classes(self):
        found = told(Talk([Step()]))
        self.assertIs(type(found), Told)
        self.assertTrue({"goes", "edges"} <= set(vars(found)))
        for value in (found.goes, found.edges, found.stops(0), found.comes(0), found.where(Silent())):
            self.assertIs(type(value), Crowds)

    def test_not_iterable(self):
        found = told(Talk([Step()]))
        self.assertRaises(TypeError, iter, found)
        self.assertRaises(TypeError, list, found)
        with self.assertRaises(TypeError):
            1 in found


class AtTheLimits(unittest.TestCase):
    """The sizes of [3], against the lines of some numbers of people."""

    def check(self, terms, term, lines=(0, 1, 2, 5, 11, 24, 40)):
        self.assertTrue(is_question(terms, [term]))
        talk, saying = Talk(rows_of(terms)), saying_of(term)
        found = told(talk)
        where = found.where(saying)
        for people in lines:
            line = Line(people).after(talk)
            self.assertEqual((found.goes.marked_in(people), found.edges.marked_in(people)), (line.goes, line.edges))
            self.assertEqual(where.marked_in(people), line.where(saying))
            for at in (0, len(talk) - 1):
                self.assertIs(type(found.comes(at)), Crowds)
        return found

    def great_fact(self, chance, period=6):
        rows = tuple("".join(chance.choice("++-") for _ in range(8 + period)) for _ in range(8 + period))
        return ("fact", (8, 8), (period, period), rows)

    def test_facts_with_starts_of_eight_and_periods_of_six(self):
        chance = random.Random(14)
        for _ in range(6):
            rows = tuple((head, ("knows", kind, self.great_fact(chance)))
                         for head, kind in zip(("ask", "hands", "ask"), ("marked", "plain", "plain")))
            self.check((("say", self.great_fact(chance)), *rows, ("step",)), ("common", self.great_fact(chance)))

    def test_twelve_rows(self):
        chance = random.Random(15)
        for _ in range(6):
            rows = []
            while len(rows) < 12:
                row = (chance.choice(("ask", "ask", "hands", "say")), drawn_great_saying(chance))
                if is_question((*rows, row)):
                    rows.append(row)
            self.check(tuple(rows), ("knows", "marked", ("silent",)))

    def test_depth_of_four_with_thirty_parts(self):
        chance = random.Random(16)
        done = 0
        while done < 12:
            term = drawn_great_saying(chance, 2)
            if is_question((("hands", ("least", "plain", 6)),), [term]):
                self.assertEqual(depth_of(term), 4)
                self.assertGreater(parts_of(term), 20)
                self.check((("hands", ("least", "plain", 6)),), term)
                done += 1

    def test_blocks_three_deep(self):
        for terms, term in questions(15, 17, blocks=3, number=6, layers=3,
                                     wanted=lambda terms, _: "end\nend\nend" in "\n".join(all_lines(terms))):
            self.check(terms, term)

    def test_common_twice(self):
        chance = random.Random(18)
        for kind in ("marked", "plain"):
            common = ("common", ("not", ("&", self.great_fact(chance), ("knows", kind, ("silent",)))))
            steps = ("times", 5, (("step",),))
            self.check((("ask", self.great_fact(chance)), ("ask", common), steps), ("common", ("not", common[1])))
            self.check((("hands", ("common", common)), steps, ("ask", ("silent",))), ("silent",))
            self.check((("if", common, (steps,), (("step",), ("hands", common))),), ("knows", kind, ("silent",)))

    def test_rows_of_all_sorts(self):
        for head in ("say", "ask", "hands"):
            for at in range(12):
                rows = [("step",)] * 12
                rows[at] = (head, ("knows", "plain", ("rest", "marked", 1, 6)))
                rows[0] = ("say", ("least", "marked", 6)) if at else rows[0]
                self.check(tuple(rows), ("silent",), (13, 40))
        self.assertIsInstance(row_of(("step",)), Step)


if __name__ == "__main__":
    unittest.main()
