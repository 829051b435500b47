"""Promise [4] and [2] over the whole program: what the modules tell of the same question is the same."""

import inspect
import itertools
import random
import unittest

from foreheads.alike import alike, least_breach, plan, reach, sure
from foreheads.counts import Count
from foreheads.crowds import Crowds
from foreheads.desk import Desk
from foreheads.errors import NoCrowd, Untrue
from foreheads.ever import neutral, reach_of, same
from foreheads.lines import Line
from foreheads.rooms import Room
from foreheads.runs import heard, holds
from foreheads.sayings import AtLeast, Common, Silent, Sure, everybody
from foreheads.talks import Say, Step, Talk
from foreheads.told import Told, told
from foreheads.ways import way, way_holds

from samples import all_crowds
from terms import commons_met, commons_of, drawn_questions, drawn_rows, is_question, rows_of, saying_of
from worlds import Said, worlds_of

SOME = AtLeast("marked", 1)


class TheSame(unittest.TestCase):
    """Each question in each way in which it can be asked."""

    def check(self, talk, saying, crowd, found, desk):
        goes = crowd in found.goes
        self.assertIs(goes, crowd[0] in Line(sum(crowd)).after(talk).goes)
        stops = [at for at in range(len(talk)) if crowd in found.stops(at)]
        room = Room(crowd)
        words = "{} {}".format(*crowd)
        if not goes:
            self.assertEqual(len(stops), 1)
            for call in (lambda: heard(talk, crowd), lambda: talk(crowd), lambda: holds(talk, crowd, saying)):
                with self.assertRaises(Untrue) as caught:
                    call()
                self.assertEqual([caught.exception.at], stops)
            self.assertRaises(NoCrowd, way, talk, crowd, saying)
            self.assertRaises(NoCrowd, found.far(saying), crowd)
            self.assertEqual(desk.say(f"hear {words}"), f"untrue {stops[0]}")
            self.assertEqual(desk.say(f"wait {words}"), "untrue")
            with self.assertRaises(Untrue):
                for row in talk.rows:
                    room.do(row)
            return False
        self.assertEqual(stops, [])
        heard_by_row = [room.do(row) for row in talk.rows]
        self.assertEqual([answer for one in heard_by_row for _, answer in one], [answer for _, answer in heard(talk, crowd)])
        self.assertEqual(room.line, Line(sum(crowd)).after(talk))
        self.assertEqual(room.talk, talk)
        answers = [holds(talk, crowd, saying), room.holds(saying), crowd in found.where(saying),
                   crowd[0] in room.line.where(saying), way(talk, crowd, saying) != (), found.far(saying)(crowd) != 0,
                   not way_holds(talk, crowd, saying, ())]
        self.assertEqual(answers, [answers[0]] * len(answers), (str(talk), str(saying), crowd))
        for at, _ in heard(talk, crowd):
            self.assertIn(crowd, found.comes(at))
        number = found.wait()(crowd)
        self.assertEqual(desk.say(f"wait {words}"), "never" if number is None else str(number))
        self.assertEqual(len(desk.say(f"hear {words}").split(" ")), max(1, len(heard(talk, crowd))))
        return True

    def test_drawn(self):
        done = []
        for terms, term in drawn_questions(50, 1):
            talk, saying, desk = Talk(rows_of(terms)), saying_of(term), Desk()
            desk.say(("read " + str(talk).replace("\n", " ; ")) if terms else "read")
            found = told(talk)
            self.assertEqual(desk.talk, talk)
            self.assertEqual(desk.say(f"where {saying}"), str(found.where(saying)))
            breach = least_breach(talk, saying)
            self.assertEqual(desk.say(f"sure {saying}"), "no {} {}".format(*breach) if breach else "yes")
            self.assertIs(sure(talk, saying), breach is None)
            done += [self.check(talk, saying, crowd, found, desk) for crowd in all_crowds(5) + [(3, 11), (20, 20), (40, 0)]]
        self.assertGreater(done.count(True), 300)
        self.assertGreater(done.count(False), 80)

    def test_against_worlds(self):
        for terms, term in drawn_questions(25, 2):
            talk, saying = Talk(rows_of(terms)), saying_of(term)
            found = told(talk)
            for crowd in all_crowds(4):
                world = frozenset(range(crowd[0]))
                try:
                    answers, behind = worlds_of(sum(crowd)).heard(terms, world)
                except Said as error:
                    self.assertIn(crowd, found.stops(error.args[0]))
                    continue
                self.assertEqual(tuple(answers), heard(talk, crowd))
                wanted = behind.holds(term, world)
                self.assertIs(wanted, crowd in found.where(saying))
                self.assertIs(wanted, found.far(saying)(crowd) != 0)
                self.assertIs(behind.holds(("common", term), world), crowd in found.far(saying).never)

    def test_talks_one_behind_the_other(self):
        chance = random.Random(3)
        for _ in range(30):
            one, other = drawn_rows(chance, 1, 2, 1), drawn_rows(chance, 1, 2, 1)
            if is_question(one + other):
                p, q = Talk(rows_of(one)), Talk(rows_of(other))
                for people in (0, 1, 5, 12):
                    self.assertEqual(Line(people).after(p + q), Line(people).after(p).after(q))
                if reach_of(q) <= 3 and not commons_met(other):
                    self.assertIs(neutral(q), same(q, Talk()))
                    if neutral(q):
                        self.assertIs(alike(p + q, p), True)

    def test_far_is_how_often_everybody_knows(self):
        for terms, term in drawn_questions(15, 4, rows=2, layers=1):
            talk, saying = Talk(rows_of(terms)), saying_of(term)
            far = told(talk).far(saying)
            if commons_of(term):
                continue
            for many in range(3):
                for crowd in all_crowds(6)[1:]:
                    if crowd in far.crowds:
                        number = far(crowd)
                        self.assertIs(holds(talk, crowd, saying), number is None or number > many)
                saying = everybody(saying)

    def test_reach_and_plan(self):
        rows = rows_of([("say", ("least", "marked", 2)), ("step",), ("hands", ("rest", "plain", 0, 2))])
        for saying in (Sure("marked"), Common(AtLeast("marked", 2)), Silent() & AtLeast("plain", 1)):
            crowds = reach(rows, saying, 2)
            for crowd in all_crowds(8) + [(30, 10), (0, 40)]:
                found = plan(rows, saying, 2, crowd)
                self.assertIs(found is not None, crowd in crowds)
                if found is not None:
                    room = Room(crowd)
                    room.several([rows[index] for index in found])
                    self.assertIs(room.holds(saying), True)

    def test_the_form_of_tables(self):
        # Sets, and the crowds in which a count is none, go round from their starts on with periods that divide that of
        # the question.
        for terms, term in drawn_questions(40, 5):
            found = told(Talk(rows_of(terms)))
            for crowds in (found.goes, found.edges, found.where(saying_of(term)), found.far(saying_of(term)).never):
                self.assertIs(type(crowds), Crowds)
                again = Crowds(crowds.starts, crowds.periods, crowds.rows)
                self.assertEqual((again.starts, again.periods, again.rows), (crowds.starts, crowds.periods, crowds.rows))
                self.assertTrue(all(6 % period == 0 or period in (4, 5) for period in crowds.periods))


class Objects(unittest.TestCase):
    def objects(self):
        desk = Desk()
        desk.say("row step")
        room = Room((1, 1))
        room += Step()
        found = told(Talk([Step()]))
        return [Crowds.every(), SOME, ~SOME, Common(SOME), Step(), Say(SOME), Talk([Step()]), Line(2), found, found.wait(),
                found.far(SOME), room, room.trial(), desk]

    def test_not_iterable(self):
        for value in self.objects():
            self.assertRaises(TypeError, iter, value)
            self.assertRaises(TypeError, list, value)
            self.assertRaises(TypeError, dict, value)
            with self.assertRaises(TypeError):
                [*value]

    def test_equal_to_nothing_of_another_class(self):
        classes = {Told: 1, Count: 2, Room: 3, Desk: 4, Line: 5, Talk: 6, Crowds: 7}
        values = [value for value in self.objects() if type(value) in classes]
        for one, other in itertools.product(values, repeat=2):
            if type(one) is not type(other):
                self.assertIs(one == other, False)
                self.assertIs(one != other, True)

    def test_names_of_parameters(self):
        for owner, names in ((Told.stops, "at"), (Told.comes, "at"), (Told.where, "saying"), (Told.far, "saying"),
                             (Count.by, "number"), (Count.is_like, "other"), (Count.__call__, "crowd"), (Room.do, "row"),
                             (Room.holds, "saying"), (Room.within, "work"), (Room.several, "rows"), (Desk.say, "command")):
            self.assertEqual(list(inspect.signature(owner).parameters), ["self", names])

    def test_asked_in_any_order(self):
        # What is asked in between makes no difference, and what is passed stays as it is.
        chance = random.Random(6)
        for terms, term in drawn_questions(8, 7):
            talk, saying, crowd = Talk(rows_of(terms)), saying_of(term), (3, 2)
            texts = str(talk), str(saying), str(crowd)
            calls = [lambda: str(told(talk).where(saying)), lambda: str(told(talk).goes), lambda: sure(talk, saying),
                     lambda: least_breach(talk, saying), lambda: str(told(talk).far(saying).by(3)),
                     lambda: told(talk).wait().greatest, lambda: Line(7).after(talk).where(saying),
                     lambda: plan([Step()], saying, 2, crowd), lambda: str(reach([Step()], saying, 2))]
            first = [call() for call in calls]
            order = list(range(len(calls)))
            chance.shuffle(order)
            self.assertEqual([calls[at]() for at in order], [first[at] for at in order])
            self.assertEqual((str(talk), str(saying), str(crowd)), texts)


if __name__ == "__main__":
    unittest.main()
