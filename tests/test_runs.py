"""Promise [18], and what [2] and [3] say of talks that are held in a crowd."""

import itertools
import random
import unittest

from foreheads.errors import Untrue
from foreheads.lines import Line
from foreheads.runs import heard, holds
from foreheads.sayings import AtLeast, Common, Knows, Rest, Silent, Sure
from foreheads.talks import Ask, Hands, If, Say, Step, Talk, Times

from samples import all_crowds
from terms import drawn_great_saying, drawn_rows, drawn_saying, rows_of, saying_of
from words import Stand
from worlds import Said, worlds_of

SOME = AtLeast("marked", 1)
BOTH = AtLeast("marked", 1) & AtLeast("plain", 1)


class AgainstWorlds(unittest.TestCase):
    """Each crowd against all sets of marked people, person by person."""

    def check(self, terms, crowd, term):
        talk, saying = Talk(rows_of(terms)), saying_of(term)
        world = frozenset(range(crowd[0]))
        try:
            wanted, behind = worlds_of(sum(crowd)).heard(terms, world)
        except Said as error:
            for call in (lambda: heard(talk, crowd), lambda: talk(crowd), lambda: holds(talk, crowd, saying)):
                with self.assertRaises(Untrue) as caught:
                    call()
                self.assertEqual(caught.exception.at, error.args[0])
            return False
        self.assertEqual(heard(talk, crowd), tuple(wanted), (terms, crowd))
        self.assertEqual(talk(crowd), tuple(wanted))
        self.assertIs(holds(talk, crowd, saying), behind.holds(term, world), (terms, crowd, term))
        self.assertEqual(holds(talk, crowd, saying), crowd[0] in Line(sum(crowd)).after(talk).where(saying))
        return True

    def test_rows_of_all_kinds(self):
        chance = random.Random(1)
        done = [self.check(drawn_rows(chance, 0, chance.randint(0, 4)), crowd, drawn_saying(chance, 2))
                for _ in range(30) for crowd in all_crowds(4)]
        self.assertGreater(done.count(True), 100)
        self.assertGreater(done.count(False), 100)

    def test_blocks(self):
        chance = random.Random(2)
        done = [self.check(drawn_rows(chance, 2, chance.randint(1, 3)), crowd, drawn_saying(chance, 2))
                for _ in range(40) for crowd in all_crowds(4)]
        self.assertGreater(done.count(True), 100)
        self.assertGreater(done.count(False), 100)

    def test_steps_and_hands_in_turns(self):
        chance = random.Random(3)
        for crowd in all_crowds(4):
            for _ in range(4):
                terms = (("say", ("least", "plain", chance.randint(0, 1))), ("hands", drawn_saying(chance, 1)), ("step",))
                self.check(terms * 2, crowd, drawn_saying(chance, 2))


class ByHand(unittest.TestCase):
    def untrue(self, talk, crowd):
        for call in (lambda: heard(talk, crowd), lambda: holds(talk, crowd, Silent())):
            with self.assertRaises(Untrue) as caught:
                call()
        return caught.exception.at

    def test_example(self):
        talk = Talk.read("say marked >= 1\nstep\nif silent\nstep\nend")
        self.assertEqual(talk((2, 1)), ((0, True), (1, (False, False)), (2, False)))
        self.assertEqual((holds(talk, (2, 1), Sure("marked")), holds(talk, (2, 1), Sure("plain"))), (True, True))

    def test_by_name(self):
        talk = Talk([Ask(SOME)])
        self.assertEqual(heard(crowd=(1, 0), talk=talk), ((0, True),))
        self.assertIs(holds(saying=SOME, crowd=(0, 1), talk=talk), False)

    def test_kinds_of_answers(self):
        self.assertEqual(heard(Talk(), (3, 4)), ())
        talk = Talk([Say(BOTH), Ask(AtLeast("marked", 2)), Hands(SOME), Step(), If(Silent(), [])])
        found = heard(talk, (1, 2))
        self.assertEqual(found, ((0, True), (1, False), (2, (True, True)), (3, (True, True)), (4, False)))
        self.assertIs(type(found), tuple)
        for _, answer in found:
            for part in answer if isinstance(answer, tuple) else [answer]:
                self.assertIs(type(part), bool)

    def test_nobody_of_a_kind(self):
        talk = Talk([Hands(SOME), Step(), Hands(AtLeast("plain", 0))])
        self.assertEqual(heard(talk, (0, 0)), ((0, (None, None)), (1, (None, None)), (2, (None, None))))
        self.assertEqual(heard(talk, (1, 0)), ((0, (False, None)), (1, (False, None)), (2, (True, None))))
        self.assertEqual(heard(talk, (0, 1)), ((0, (None, False)), (1, (None, False)), (2, (None, True))))
        self.assertEqual(heard(talk, (0, 3)), ((0, (None, False)), (1, (None, True)), (2, (None, True))))

    def test_numbers_in_blocks(self):
        talk = Talk([Step(), Times(2, [Ask(SOME), If(SOME, [Step()], [Ask(Silent()), Step()])]), Step()])
        numbers = [at for at, _ in heard(talk, (1, 1))]
        self.assertEqual(numbers, [0, 2, 3, 4, 2, 3, 4, 7])
        numbers = [at for at, _ in heard(talk, (0, 2))]
        self.assertEqual(numbers, [0, 2, 3, 5, 6, 2, 3, 5, 6, 7])

    def test_empty_blocks(self):
        talk = Talk([Times(3, []), If(SOME, []), If(SOME, [], [Step()]), Times(2, [Times(2, [])]), Ask(SOME)])
        self.assertEqual(heard(talk, (1, 1)), ((1, True), (2, True), (6, True)))
        self.assertEqual([at for at, _ in heard(talk, (0, 2))], [1, 2, 3, 6])

    def test_untrue(self):
        self.assertEqual(self.untrue(Talk([Say(SOME)]), (0, 2)), 0)
        self.assertEqual(self.untrue(Talk([Ask(SOME), Say(~SOME), Say(~SOME)]), (1, 2)), 1)
        talk = Talk([Step(), If(SOME, [Ask(SOME), Say(AtLeast("marked", 2))], [Step(), Say(AtLeast("plain", 3))])])
        self.assertEqual(self.untrue(talk, (1, 5)), 3)
        self.assertEqual(self.untrue(talk, (0, 2)), 5)
        self.assertEqual(len(talk((2, 0))), 4)
        self.assertEqual(len(talk((0, 3))), 4)

    def test_untrue_in_a_later_round(self):
        # In each round both the words and the step that nobody does tell that there is one marked person more.
        talk = Talk([Say(SOME), Times(4, [Say(Silent()), Step()])])
        for marked in range(1, 8):
            self.assertEqual(self.untrue(talk, (marked, 5)), 2)
            rounds = marked // 2
            if rounds:
                shorter = Talk([Say(SOME), Times(rounds, [Say(Silent()), Step()])])
                self.assertEqual([at for at, _ in shorter((marked, 5))], [0] + [2, 3] * rounds)
        self.assertEqual(len(heard(talk, (8, 5))), 9)

    def test_the_first_untrue_one(self):
        talk = Talk([Say(Silent()), Say(SOME), Say(Silent()), Say(SOME & ~SOME)])
        self.assertEqual(self.untrue(talk, (0, 3)), 1)
        self.assertEqual(self.untrue(talk, (1, 3)), 2)
        self.assertEqual(self.untrue(talk, (2, 3)), 3)

    def test_a_saying_that_makes_itself_false(self):
        talk = Talk([Say(SOME & ~Knows("marked", SOME)), Ask(SOME & ~Knows("marked", SOME))])
        self.assertEqual(heard(talk, (1, 3)), ((0, True), (1, False)))

    def test_rounds_in_great_crowds(self):
        step = Talk([Step()])
        for marked, plain in ((1, 39), (5, 35), (10, 30), (11, 29), (40, 0)):
            rounds = heard(Talk([Say(SOME)]) + 11 * step, (marked, plain))[1:]
            for at, (_, (by_marked, by_plain)) in enumerate(rounds, 1):
                self.assertIs(by_marked, at >= marked)
                self.assertIs(by_plain, at > marked if plain else None)
        for marked, plain in ((1, 39), (37, 3), (8, 32), (20, 20)):
            rounds = heard(Talk([Say(BOTH)]) + 11 * step, (marked, plain))[1:]
            for at, (_, (by_marked, by_plain)) in enumerate(rounds, 1):
                # Who is of the lesser number knows first, the others one round later.
                self.assertIs(by_marked, at >= min(marked, plain + 1))
                self.assertIs(by_plain, at >= min(plain, marked + 1))

    def test_hands_in_great_crowds(self):
        talk = Talk([Hands(SOME), Hands(SOME), Step()])
        self.assertEqual(heard(talk, (1, 39)), ((0, (False, True)), (1, (True, True)), (2, (True, True))))
        self.assertEqual(heard(talk, (2, 38)), ((0, (True, True)), (1, (True, True)), (2, (True, False))))
        self.assertEqual(heard(talk, (3, 37)), ((0, (True, True)), (1, (True, True)), (2, (False, False))))
        self.assertEqual(heard(talk, (0, 40)), ((0, (None, False)), (1, (None, False)), (2, (None, True))))
        self.assertEqual(heard(talk, (40, 0)), ((0, (True, None)), (1, (True, None)), (2, (False, None))))

    def test_rests_in_great_crowds(self):
        for rest, (marked, plain) in itertools.product(range(3), ((20, 20), (21, 19), (22, 18), (40, 0), (0, 40))):
            talk = Talk([Ask(Rest("marked", rest, 3)), Step()])
            first, second = heard(talk, (marked, plain))
            self.assertEqual(first, (0, marked % 3 == rest))
            # Open is the edge between the two rests of which none was asked for.
            open_below, open_above = marked % 3 == (rest + 2) % 3, marked % 3 == (rest + 1) % 3
            self.assertEqual(second, (1, (not open_below if marked else None, not open_above if plain else None)))

    def test_common_knowledge_in_great_crowds(self):
        talk = Talk([Say(AtLeast("plain", 20) | AtLeast("marked", 30))])
        self.assertIs(holds(talk, (5, 35), Common(AtLeast("plain", 20))), True)
        self.assertIs(holds(talk, (35, 5), Common(AtLeast("marked", 30))), True)
        self.assertIs(holds(talk, (20, 20), Common(AtLeast("plain", 21))), False)
        self.assertIs(holds(Talk(), (20, 20), Common(SOME)), False)
        self.assertIs(holds(Talk(), (20, 20), Knows("marked", Knows("plain", SOME))), True)
        self.assertEqual(self.untrue(talk, (21, 19)), 0)

    def test_talks_do_not_change(self):
        talk = Talk([Say(SOME), If(Silent(), [Step()], [Ask(SOME)])])
        crowds = all_crowds(4)[2:]
        before = str(talk)
        first = [heard(talk, crowd) for crowd in crowds if crowd[0] > 0]
        again = [heard(talk, crowd) for crowd in crowds if crowd[0] > 0]
        self.assertEqual(first, again)
        self.assertEqual(str(talk), before)


class AtTheLimits(unittest.TestCase):
    """The sizes of [3], against the words of [17] crowd by crowd."""

    def check(self, terms, crowd, term):
        talk, saying = Talk(rows_of(terms)), saying_of(term)
        try:
            wanted, behind = Stand(sum(crowd)).heard(terms, crowd[0])
        except Said as error:
            with self.assertRaises(Untrue) as caught:
                heard(talk, crowd)
            self.assertEqual(caught.exception.at, error.args[0])
            return False
        self.assertEqual(heard(talk, crowd), tuple(wanted), (terms, crowd))
        self.assertIs(holds(talk, crowd, saying), behind.holds(term, crowd[0]), (terms, crowd, term))
        return True

    def test_blocks_in_great_crowds(self):
        chance = random.Random(4)
        done = [self.check(drawn_rows(chance, 3, 3, 2, 6), (marked, people - marked), drawn_saying(chance, 3, 6))
                for people in (9, 39, 40) for marked in (0, 1, 2, 5, 9, people // 2, people - 1, people) if marked <= people
                for _ in range(6)]
        self.assertGreater(done.count(True), 30)

    def test_twelve_rows_of_great_sayings(self):
        chance = random.Random(5)
        for crowd in ((20, 20), (40, 0), (0, 40), (13, 27), (1, 39), (38, 2)):
            for _ in range(3):
                rows = tuple((head, drawn_great_saying(chance)) for head in ("ask", "hands"))
                self.assertTrue(self.check((("times", 6, rows),), crowd, drawn_great_saying(chance, 2)))


if __name__ == "__main__":
    unittest.main()
