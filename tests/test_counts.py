"""Promises [20], [21] and [22], the part of [4] about counts, and what [2] and [3] say of them."""

import itertools
import unittest

from foreheads.counts import Count
from foreheads.crowds import Crowds
from foreheads.errors import NoCrowd
from foreheads.lines import Line
from foreheads.sayings import AtLeast, Common, Knows, Rest, Silent, Sure, everybody
from foreheads.talks import Ask, Say, Step, Talk
from foreheads.told import told

from samples import all_crowds, any_values, is_crowd
from terms import commons_met, commons_of, drawn_questions, rows_of, saying_of

SOME = AtLeast("marked", 1)
BOTH = AtLeast("marked", 1) & AtLeast("plain", 1)
STEP = Talk([Step()])
GREAT = (7, 10 ** 5, 10 ** 5 + 1, 10 ** 5 + 2, 10 ** 29 - 5, 10 ** 29, 10 ** 30)


def rounds_on(line):
    """In which round of steps somebody first steps forward, in each crowd of a line in which that happens."""
    found = {}
    for number in range(1, line.people + 3):
        silent = line.where(Silent())
        for marked in line.goes:
            if marked not in silent:
                found.setdefault(marked, number)
        line = line.after(STEP)
    return found


def distances_on(line, saying):
    """The least number of open edges to a crowd in which a saying does not hold, going over them one by one."""
    good = line.where(saying)
    found = {}
    now = [marked for marked in line.goes if marked not in good]
    while now:
        many = len(found) and max(found.values()) + 1
        found.update(dict.fromkeys(now, many))
        beside = [k - 1 for k in now if k in line.edges] + [k + 1 for k in now if k + 1 in line.edges]
        now = [k for k in set(beside) if k not in found]
    return found


def number_by_neighbours(count, found, failing, first, crowd):
    """What a count must tell in a crowd by what it tells in those to which open edges lead."""
    marked, plain = crowd
    if crowd in failing:
        return first
    beside = []
    if crowd in found.edges:
        beside.append(count((marked - 1, plain + 1)))
    if plain > 0 and (marked + 1, plain - 1) in found.edges:
        beside.append(count((marked + 1, plain - 1)))
    return min([number + 1 for number in beside if number is not None], default=None)


class AgainstLines(unittest.TestCase):
    def check(self, terms, term, most=12):
        talk, saying = Talk(rows_of(terms)), saying_of(term)
        found = told(talk)
        wait, far = found.wait(), found.far(saying)
        for count in (wait, far):
            self.assertIs(type(count), Count)
            self.assertEqual(count.crowds, found.goes)
        for people in list(range(most + 1)) + [27]:
            line = Line(people).after(talk)
            for count, wanted in ((wait, rounds_on(line)), (far, distances_on(line, saying))):
                for marked in range(people + 1):
                    crowd = (marked, people - marked)
                    if marked in line.goes:
                        self.assertEqual(count(crowd), wanted.get(marked), (terms, term, crowd))
                        self.assertIs(crowd in count.never, marked not in wanted)
                    else:
                        self.assertRaises(NoCrowd, count, crowd)
                        self.assertNotIn(crowd, count.never)

    def test_drawn(self):
        for terms, term in drawn_questions(60, 1):
            self.check(terms, term)

    def test_greater_numbers(self):
        for terms, term in drawn_questions(25, 2, rows=4, number=6, layers=3):
            self.check(terms, term)

    def test_common(self):
        for terms, term in drawn_questions(80, 3):
            if commons_met(terms) + commons_of(term):
                self.check(terms, term)

    def test_no_rows(self):
        self.check((), ("least", "marked", 2))
        self.check((), ("silent",))


class FarCrowds(unittest.TestCase):
    """In great crowds each number is told by those of the neighbours, and `by` and `never` by the numbers."""

    def check(self, terms, term):
        talk, saying = Talk(rows_of(terms)), saying_of(term)
        found = told(talk)
        for count, failing, first in ((found.wait(), found.goes - found.where(Silent()), 1),
                                      (found.far(saying), found.goes - found.where(saying), 0)):
            by = [count.by(number) for number in (0, 1, 2, 5, 20)]
            for crowd in itertools.product((0, 1, 2, 3, *GREAT), repeat=2):
                if crowd not in found.goes:
                    self.assertRaises(NoCrowd, count, crowd)
                    self.assertFalse(any(crowd in crowds for crowds in by))
                    continue
                number = count(crowd)
                self.assertEqual(number, number_by_neighbours(count, found, failing, first, crowd), (terms, term, crowd))
                self.assertIs(crowd in count.never, number is None)
                self.assertEqual([crowd in crowds for crowds in by],
                                 [number is not None and number <= most for most in (0, 1, 2, 5, 20)])

    def test_drawn(self):
        for terms, term in drawn_questions(40, 4):
            self.check(terms, term)

    def test_greater_numbers(self):
        for terms, term in drawn_questions(20, 5, rows=5, number=6):
            self.check(terms, term)

    def test_six_more(self):
        for terms, term in drawn_questions(40, 6):
            found = told(Talk(rows_of(terms)))
            for count in (found.wait(), found.far(saying_of(term))):
                for near in ((60, 60), (61, 58), (2, 70), (70, 3)):
                    many = 6 * 10 ** 20
                    for more in ((many, 0), (0, many), (many, many)):
                        far = (near[0] + more[0] * (near[0] > 9), near[1] + more[1] * (near[1] > 9))
                        if near not in found.goes:
                            self.assertNotIn(far, found.goes)
                            continue
                        one, other = count(near), count(far)
                        if one is None:
                            # Where one comes to none from here, one may come to none from there only.
                            self.assertIsNone(other)
                        elif other is not None:
                            self.assertIn(other, (one, one + many, *range(one, 80)))


class ByHand(unittest.TestCase):
    GREAT = (1, 2, 3, 8, 40, 10 ** 9, 10 ** 20 + 3, 10 ** 29)

    def check(self, count, wanted, *, among=None):
        among = among or (0, *self.GREAT)
        for crowd in itertools.product(among, repeat=2):
            if crowd in count.crowds:
                self.assertEqual(count(crowd), wanted(*crowd), crowd)

    def test_overview(self):
        wait = told(Talk.read("say marked >= 1")).wait()
        self.assertEqual((wait((1, 9)), wait((50, 3)), wait((10 ** 9, 10 ** 9)), wait.greatest), (1, 50, 1000000000, None))

    def test_example(self):
        behind = told(Talk.read("say (marked >= 1) & (plain >= 1)"))
        self.assertEqual([behind.wait()(crowd) for crowd in [(1, 5), (3, 5), (8, 5), (10 ** 20, 10 ** 18)]],
                         [1, 3, 5, 1000000000000000000])
        self.assertEqual((behind.far(AtLeast("marked", 3))((10, 1)), str(behind.wait().by(1)),
                          behind.wait().never == Crowds.nothing()), (8, "[2 2 1 1: --- -++ -+-]", True))

    def test_marked_less_a_number(self):
        for number in (1, 2, 3, 6):
            found = told(Talk([Say(AtLeast("marked", number))]))
            self.check(found.wait(), lambda k, l: k - number + 1)
            self.assertEqual(found.wait().never, Crowds.nothing())
            self.check(found.far(AtLeast("marked", number + 2)), lambda k, l: max(0, k - number - 1))
        self.check(told(Talk()).far(AtLeast("marked", 3)), lambda k, l: max(0, k - 2))

    def test_plain_less_a_number(self):
        for number in (1, 2, 5):
            found = told(Talk([Say(AtLeast("plain", number))]))
            self.check(found.wait(), lambda k, l: l - number + 1)
            self.check(found.far(AtLeast("plain", number + 1)), lambda k, l: max(0, l - number))

    def test_the_lesser_of_both(self):
        found = told(Talk([Say(AtLeast("marked", 2) & AtLeast("plain", 3))]))
        self.check(found.wait(), lambda k, l: min(k - 1, l - 2))
        self.check(found.far(AtLeast("plain", 5) & AtLeast("marked", 3)), lambda k, l: max(0, min(k - 2, l - 4)))

    def test_fixed_numbers_by_rests(self):
        wait = told(Talk([Ask(Rest("marked", 0, 6))])).wait()
        # Closed are the edges at each crowd that leaves the rest 0; without plain people there is none upwards.
        for rest, number, alone in zip(range(6), (1, 1, 2, 3, 2, 1), (1, 1, 2, 3, 4, 5)):
            for great in (6, 6 * 10 ** 28, 6 * 10 ** 29):
                self.assertEqual(wait((great + rest, 6 * 10 ** 28)), number)
                self.assertEqual(wait((great + rest, 6)), number)
                self.assertEqual(wait((great + rest, 0)), alone)
        self.assertEqual(wait.greatest, 5)
        far = told(Talk()).far(~Rest("plain", 2, 3))
        self.check(far, lambda k, l: (l + 1) % 3 and 1, among=self.GREAT[3:])
        self.assertEqual((far((0, 1)), far((1, 0)), far((0, 0)), far((2, 0)), far((1, 1))), (None, None, None, 2, 1))

    def test_fixed_by_rests_and_less_than_that_at_an_end(self):
        # Up one comes to the edge that is closed by plain people, down to a rest of the marked ones.
        found = told(Talk([Say(AtLeast("plain", 1)), Ask(Rest("marked", 0, 6) | Rest("marked", 1, 6))]))
        for k, l in itertools.product(range(12, 24), (1, 2, 3, 4, 9, 10 ** 29)):
            self.assertEqual(found.wait()((k + 6 * 10 ** 28, l)), min(l, self.by_closed(k, l)), (k, l))

    def by_closed(self, k, l):
        """The round that comes of the edges that are closed by the rests: 0 and 1 by 6 are told from the others."""
        ends = [at for at in range(k - 6, k + min(l, 6) + 1) if at % 6 in (0, 5, 1, 2)]
        return 1 + min(abs(at - k) for at in ends)

    def test_one_of_them_alone(self):
        wait = told(Talk([Ask(AtLeast("plain", 5))])).wait()
        self.check(wait, lambda k, l: l - 4 if l > 4 else 5 - l if k + l > 4 else None)
        self.assertEqual(wait.never, ~Crowds.at_least("marked", 5) & self.with_fewer_people(5))
        self.assertIsNone(wait.greatest)
        wait = told(Talk([Ask(AtLeast("plain", 5)), Say(~AtLeast("plain", 5))])).wait()
        self.assertEqual(wait.greatest, 5)
        self.assertEqual([wait((10 ** 29, plain)) for plain in range(5)], [5, 4, 3, 2, 1])

    def with_fewer_people(self, many):
        return Crowds.of([crowd for crowd in all_crowds(many - 1)])

    def test_none(self):
        wait = told(Talk()).wait()
        self.check(wait, lambda k, l: None)
        self.assertEqual((wait.never, wait.greatest), (Crowds.every(), None))
        self.assertEqual([wait.by(number) for number in (0, 1, 20)], [Crowds.nothing()] * 3)
        far = told(Talk([Say(SOME)])).far(SOME)
        self.assertEqual((far.never, far.greatest), (Crowds.at_least("marked", 1), None))
        self.check(far, lambda k, l: None)
        nowhere = told(Talk([Say(SOME & ~SOME)])).wait()
        self.assertEqual((nowhere.crowds, nowhere.never, nowhere.greatest), (Crowds.nothing(), Crowds.nothing(), None))
        self.assertRaises(NoCrowd, nowhere, (0, 0))

    def test_nobody(self):
        # With nobody at all nobody ever steps, and there is no edge.
        for talk in (Talk(), Talk([Step()]), Talk([Ask(SOME)])):
            self.assertIsNone(told(talk).wait()((0, 0)))
            self.assertEqual(told(talk).far(SOME)((0, 0)), 0)
            self.assertIsNone(told(talk).far(~SOME)((0, 0)))
        self.assertEqual(told(Talk([Ask(SOME)])).wait()((1, 0)), 1)

    def test_steps_take_rounds_away(self):
        for rounds in range(5):
            wait = told(Talk([Say(SOME)]) + rounds * STEP).wait()
            self.check(wait, lambda k, l: max(1, k - rounds))


class Numbers(unittest.TestCase):
    def test_by_each_number(self):
        for terms, term in drawn_questions(20, 7):
            found = told(Talk(rows_of(terms)))
            for count in (found.wait(), found.far(saying_of(term))):
                numbers = {crowd: count(crowd) for crowd in all_crowds(14) if crowd in count.crowds}
                for number in range(21):
                    by = count.by(number)
                    self.assertIs(type(by), Crowds)
                    for crowd in all_crowds(14):
                        wanted = crowd in numbers and numbers[crowd] is not None and numbers[crowd] <= number
                        self.assertIs(crowd in by, wanted)
                self.assertTrue(count.by(19) <= count.by(20) <= count.crowds - count.never)

    def test_by_hand(self):
        wait = told(Talk([Say(BOTH)])).wait()
        self.assertEqual(wait.by(0), Crowds.nothing())
        for number in (1, 2, 7, 20):
            more = Crowds.at_least("marked", number + 1) & Crowds.at_least("plain", number + 1)
            self.assertEqual(wait.by(number), wait.crowds - more)
        far = told(Talk()).far(SOME)
        self.assertEqual(far.by(0), ~Crowds.at_least("marked", 1))
        self.assertEqual(far.by(number=3), ~Crowds.at_least("marked", 4))

    def test_greatest(self):
        known, grown = 0, 0
        for terms, term in drawn_questions(150, 8):
            found = told(Talk(rows_of(terms)))
            for count in (found.wait(), found.far(saying_of(term))):
                near = [count(crowd) for crowd in all_crowds(24) if crowd in count.crowds]
                far = [count(crowd) for crowd in itertools.product((0, 1, 2, 3, 4, 5, *range(10 ** 9, 10 ** 9 + 6)), repeat=2)
                       if crowd in count.crowds]
                numbers = [number for number in near + far if number is not None]
                most = max(numbers, default=None)
                if most is not None and most > 10 ** 6:
                    self.assertIsNone(count.greatest)
                    grown += 1
                elif most is None:
                    self.assertIsNone(count.greatest)
                else:
                    self.assertEqual(count.greatest, most, (terms, term))
                    known += 1
        self.assertGreater(known, 50)
        self.assertGreater(grown, 50)

    def test_everybody_knows_that_everybody_knows(self):
        for terms, term in drawn_questions(25, 9, rows=2, layers=1):
            if commons_of(term):
                continue
            found = told(Talk(rows_of(terms)))
            saying = saying_of(term)
            far = found.far(saying)
            for many in range(4):
                holds = found.where(saying)
                for crowd in all_crowds(8)[1:]:
                    if crowd in found.goes:
                        number = far(crowd)
                        self.assertIs(crowd in holds, number is None or number > many)
                saying = everybody(saying)

    def test_common_knowledge_is_where_there_is_none(self):
        for terms, term in drawn_questions(25, 10, layers=1):
            found, saying = told(Talk(rows_of(terms))), saying_of(term)
            if saying.commons == 0 and commons_met(terms) < 2:
                self.assertEqual(found.far(saying).never, found.where(Common(saying)))
                self.assertEqual(found.far(saying).by(0), found.goes - found.where(saying))


class NoCrowds(unittest.TestCase):
    def check(self, count, value):
        with self.assertRaises(NoCrowd) as caught:
            count(value)
        self.assertIs(caught.exception.crowd, value)

    def test_any_value(self):
        found = told(Talk([Say(SOME)]))
        for count in (found.wait(), found.far(Silent()), told(Talk()).wait()):
            for value in any_values() + [(1,), (1, 2, 3), [1, 2], (1, -1), (True, 1), (1, "1"), (1.0, 2), {}, {1, 2}]:
                if not is_crowd(value) or value not in count.crowds:
                    self.check(count, value)
                else:
                    self.assertIn(type(count(value)), (int, type(None)))

    def test_crowds_in_which_it_does_not_go_on(self):
        wait = told(Talk([Say(Rest("plain", 1, 3) & SOME)])).wait()
        for crowd in ((0, 1), (0, 0), (10 ** 30, 3 * 10 ** 29), (5, 6), (0, 3 * 10 ** 29 + 1)):
            self.check(wait, crowd)
        self.assertEqual(wait((10 ** 30, 3 * 10 ** 29 + 1)), 1)


class Likeness(unittest.TestCase):
    def test_asked_anew(self):
        for terms, term in drawn_questions(25, 11):
            talk, saying = Talk(rows_of(terms)), saying_of(term)
            found = told(talk)
            for one, other in ((found.wait(), told(talk).wait()), (found.far(saying), told(talk).far(saying))):
                self.assertIs(one.is_like(other), True)
                self.assertIs(other.is_like(one), True)
                self.assertIs(one.is_like(one), True)

    def test_other_talks(self):
        counts = [count for terms, term in drawn_questions(16, 12, layers=1) for found in [told(Talk(rows_of(terms)))]
                  for count in (found.wait(), found.far(saying_of(term)))]
        crowds = list(itertools.product((*range(9), *range(60, 66), *range(10 ** 9, 10 ** 9 + 6)), repeat=2))
        alike = [tuple(count(crowd) if crowd in count.crowds else "-" for crowd in crowds) for count in counts]
        found = [one.is_like(other) for one in counts for other in counts]
        self.assertEqual(found, [one == other for one in alike for other in alike])
        self.assertGreater(found.count(True), len(counts))

    def test_equal_sets_and_other_numbers(self):
        found = told(Talk([Say(SOME)]))
        waits = found.wait(), told(Talk([Say(SOME), Step()])).wait(), told(Talk([Say(SOME), Ask(AtLeast("marked", 4))])).wait()
        fars = found.far(Silent()), found.far(AtLeast("marked", 2)), found.far(AtLeast("marked", 9)), found.far(SOME)
        for one, other in itertools.product(range(7), repeat=2):
            # A crowd in which somebody steps now is none in which all are silent: these two differ by one.
            like = one == other or {one, other} == {3, 4}
            self.assertIs((waits + fars)[one].is_like((waits + fars)[other]), like, (one, other))

    def test_other_sets_and_numbers_that_are_none(self):
        one = told(Talk([Say(SOME)])).far(SOME)
        other = told(Talk([Say(AtLeast("plain", 1))])).far(AtLeast("plain", 1))
        self.assertIs(one.is_like(other), False)
        self.assertIs(one.is_like(told(Talk([Say(SOME), Step()])).far(SOME)), True)
        self.assertIs(told(Talk()).wait().is_like(told(Talk()).far(Sure("marked") | ~Sure("marked"))), True)

    def test_far_differences(self):
        # Of these the numbers differ only in crowds with many people of both kinds.
        far = told(Talk()).far(~(AtLeast("marked", 6) & AtLeast("plain", 6)))
        nearly = told(Talk()).far(~(AtLeast("marked", 6) & AtLeast("plain", 6) & ~Rest("marked", 5, 6)))
        self.assertIs(far.is_like(nearly), False)
        self.assertIs(far.is_like(other=told(Talk([Step()])).far(~(AtLeast("plain", 6) & AtLeast("marked", 6)))), True)
        marked, plain = told(Talk([Ask(Rest("marked", 0, 2))])), told(Talk([Ask(Rest("plain", 0, 2))]))
        self.assertIs(marked.wait().is_like(plain.wait()), True)
        self.assertIs(marked.far(Knows("plain", SOME)).is_like(plain.far(Knows("plain", SOME))), True)
        for period in (3, 6):
            self.assertIs(marked.wait().is_like(told(Talk([Ask(Rest("marked", 0, period))])).wait()), False)


class Objects(unittest.TestCase):
    def test_attributes(self):
        count = told(Talk([Say(SOME)])).wait()
        self.assertTrue({"crowds", "never"} <= set(vars(count)))
        self.assertIs(type(count.crowds), Crowds)
        self.assertIs(type(count.never), Crowds)

    def test_by_name(self):
        found = told(Talk([Say(SOME)]))
        self.assertEqual(found.wait()(crowd=(3, 4)), 3)
        self.assertEqual(found.wait().by(number=2), found.goes - Crowds.at_least("marked", 3))
        self.assertIs(found.wait().is_like(other=found.wait()), True)

    def test_asked_once_more(self):
        for terms, term in drawn_questions(10, 13):
            found = told(Talk(rows_of(terms)))
            count = found.far(saying_of(term))
            crowds = [crowd for crowd in itertools.product((*range(7), 10 ** 20), repeat=2) if crowd in count.crowds]
            first = [count(crowd) for crowd in crowds], str(count.by(2)), count.greatest, str(count.never)
            count.by(20), found.wait(), count.is_like(found.wait())
            self.assertEqual(([count(crowd) for crowd in crowds], str(count.by(2)), count.greatest, str(count.never)), first)

    def test_not_iterable(self):
        count = told(Talk([Step()])).wait()
        self.assertRaises(TypeError, iter, count)
        self.assertRaises(TypeError, list, count)
        with self.assertRaises(TypeError):
            (1, 1) in count


if __name__ == "__main__":
    unittest.main()
