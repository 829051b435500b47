"""Promise [29], and what [1], [2] and [3] say of rooms."""

import random
import unittest

from foreheads.errors import InvalidLine, InvalidTalk, NoRow, Refused, Untrue
from foreheads.lines import Line
from foreheads.rooms import Room
from foreheads.runs import heard, holds
from foreheads.sayings import AtLeast, Common, Knows, Silent, Sure
from foreheads.talks import Ask, Hands, If, Row, Say, Step, Talk, Times

from samples import any_values, is_crowd
from terms import drawn_question, drawn_row, is_question, row_of, saying_of
from words import Stand
from worlds import Said

SOME = AtLeast("marked", 1)
FALSE = Say(SOME & ~SOME)


def state(room):
    """All that can be seen of a room, what can be taken back too."""
    line = room.line
    seen = [room.crowd, str(room.talk), len(room), (line.people, line.goes, line.edges), room.holds(Sure("marked"))]
    return tuple(seen)


def history(room):
    """What a room shows when all is taken back, row by row."""
    found = [state(room)]
    while room.undo():
        found.append(state(room))
    return found


class Oops(Exception):
    pass


class AgainstRuns(unittest.TestCase):
    """Row by row against the words of [17], and against runs of the whole talk."""

    def test_drawn(self):
        chance = random.Random(1)
        stopped = done = 0
        for _ in range(150):
            _, term = drawn_question(chance, layers=1)
            saying = saying_of(term)
            people = chance.randint(0, 9)
            crowd = (chance.randint(0, people), 0)
            crowd = (crowd[0], people - crowd[0])
            room, stand, rows = Room(crowd), Stand(people), []
            for _ in range(4):
                row = drawn_row(chance, 2, 1)
                if not is_question((*rows, row), [term]):
                    continue
                before = state(room)
                try:
                    wanted = tuple(stand.heard([row], crowd[0])[0])
                except Said as error:
                    for do in (room.do, room.__iadd__):
                        with self.assertRaises(Untrue) as caught:
                            do(row_of(row))
                        self.assertEqual(caught.exception.at, error.args[0])
                    self.assertEqual(state(room), before)
                    stopped += 1
                    continue
                self.assertEqual(room.do(row_of(row)), wanted)
                stand = stand.after([row])
                rows.append(row)
                done += 1
                line = room.line
                self.assertEqual((line.people, line.goes, line.edges), stand.told())
                self.assertEqual(room.talk, Talk([row_of(term) for term in rows]))
                self.assertEqual(len(room), len(rows))
                self.assertIs(room.holds(saying), holds(room.talk, crowd, saying))
                self.assertEqual(room.line, Line(people).after(room.talk))
        self.assertGreater(stopped, 30)
        self.assertGreater(done, 150)

    def test_numbers_within_the_row(self):
        room = Room((2, 3))
        self.assertEqual(room.do(Say(SOME)), ((0, True),))
        self.assertEqual(room.do(Step()), ((0, (False, False)),))
        self.assertEqual(room.do(If(Silent(), [Step()], [Times(2, [Ask(SOME), Step()])])),
                         ((0, False), (3, True), (4, (True, True)), (3, True), (4, (True, True))))
        self.assertEqual(room.do(Times(1, [])), ())
        self.assertEqual(len(room), 4)
        self.assertEqual(len(room.talk), 8)
        with self.assertRaises(Untrue) as caught:
            room.do(If(SOME, [Times(2, [Step(), Say(Silent())])]))
        self.assertEqual(caught.exception.at, 3)
        with self.assertRaises(Untrue) as caught:
            room.do(FALSE)
        self.assertEqual(caught.exception.at, 0)
        self.assertEqual((len(room), len(room.talk)), (4, 8))

    def test_the_other_crowds_go_their_own_ways(self):
        room = Room((1, 3))
        room.do(If(AtLeast("marked", 2), [Say(AtLeast("marked", 3)), Step()], [Ask(SOME)]))
        self.assertEqual((room.line.goes, room.line.edges), ((0, 1, 3, 4), ()))

    def test_forty_people_and_twelve_rows(self):
        room = Room((12, 28))
        talk = Talk([Say(SOME)]) + 11 * Talk([Step()])
        found = [room.do(row) for row in talk.rows]
        self.assertEqual([answer for one in found for _, answer in one], [answer for _, answer in heard(talk, (12, 28))])
        self.assertEqual(found[-1], ((0, (False, False)),))
        self.assertEqual(room.do(Step()), ((0, (True, False)),))
        self.assertIs(room.holds(Common(SOME)), True)


class Making(unittest.TestCase):
    def test_beginning(self):
        for crowd in ((0, 0), (3, 0), (0, 7), (20, 20)):
            room = Room(crowd)
            self.assertIs(room.crowd, crowd)
            self.assertIn("crowd", vars(room))
            self.assertEqual((room.talk, room.line, len(room)), (Talk(), Line(sum(crowd)), 0))
            self.assertIs(room.undo(), False)
            self.assertIs(room.holds(Silent()), True)

    def test_any_value_as_a_crowd(self):
        for value in any_values() + [[1, 2], (1,), (1, 2, 3), (1, True), (1.0, 2), "12"]:
            if not is_crowd(value):
                with self.assertRaises(InvalidLine) as caught:
                    Room(value)
                self.assertEqual(caught.exception.word, "crowd")
            else:
                self.assertEqual(Room(value).crowd, value)

    def test_any_value_as_a_row(self):
        for value in any_values() + [Step, [Step()], Talk([Step()]), "step"]:
            room = Room((2, 1))
            room.do(Say(SOME))
            before = state(room)
            if isinstance(value, Row):
                try:
                    room.do(value)
                except Untrue:
                    pass
                continue
            for do in (room.do, room.__iadd__):
                with self.assertRaises(InvalidTalk) as caught:
                    do(value)
                self.assertEqual(caught.exception.word, "rows")
            with self.assertRaises(InvalidTalk):
                room += value
            self.assertEqual(state(room), before)

    def test_by_name(self):
        room = Room(crowd=(1, 1))
        self.assertEqual(room.do(row=Say(SOME)), ((0, True),))
        self.assertIs(room.holds(saying=SOME), True)
        self.assertEqual(room.within(work=len), 1)
        self.assertEqual(room.several(rows=[Step()]), (((0, (True, False)),),))

    def test_not_iterable(self):
        room = Room((1, 1))
        room.do(Step())
        for value in (room, room.trial()):
            self.assertRaises(TypeError, iter, value)
            self.assertRaises(TypeError, list, value)
            with self.assertRaises(TypeError):
                1 in value

    def test_without_described_results(self):
        room = kept = Room((1, 1))
        room += Step()
        self.assertIs(room, kept)
        self.assertEqual(len(room), 1)

    def test_what_was_returned_stays(self):
        room = Room((2, 2))
        talk, line = room.talk, room.line
        room += Say(SOME)
        room += Step()
        self.assertEqual((talk, line), (Talk(), Line(4)))
        talk, line = room.talk, room.line
        room.undo()
        self.assertEqual((len(talk), line.edges), (2, (3, 4)))
        self.assertEqual((room.talk, room.line.edges), (Talk([Say(SOME)]), (2, 3, 4)))


class Undo(unittest.TestCase):
    def test_row_by_row(self):
        room = Room((2, 3))
        states = [state(room)]
        for row in (Say(SOME), Step(), If(SOME, [Step(), Ask(SOME)]), Times(2, [Step()])):
            room += row
            states.append(state(room))
        for before in states[-2::-1]:
            self.assertIs(room.undo(), True)
            self.assertEqual(state(room), before)
        self.assertIs(room.undo(), False)
        self.assertIs(room.undo(), False)
        self.assertEqual(state(room), states[0])

    def test_then_other_rows(self):
        room = Room((2, 3))
        room += Say(SOME)
        room += Say(AtLeast("marked", 2))
        self.assertIs(room.holds(Common(AtLeast("marked", 2))), True)
        room.undo()
        room += Ask(AtLeast("plain", 3))
        self.assertIs(room.holds(Common(AtLeast("marked", 2))), False)
        self.assertEqual(str(room.talk), "say marked >= 1\nask plain >= 3")

    def test_untrue_rows_are_not_taken_back(self):
        room = Room((1, 3))
        room += Ask(SOME)
        self.assertRaises(Untrue, room.do, FALSE)
        self.assertIs(room.undo(), True)
        self.assertEqual(len(room), 0)


class Trials(unittest.TestCase):
    def room(self):
        room = Room((2, 3))
        room += Say(SOME)
        room += Step()
        return room

    def test_left_without_an_error(self):
        room = self.room()
        before = state(room)
        with room.trial() as inside:
            self.assertIs(inside, room)
            self.assertEqual(state(room), before)
            room += Step()
            room.do(Ask(Knows("plain", SOME)))
            self.assertEqual(len(room), 4)
        self.assertEqual(state(room), before)
        self.assertEqual(history(room), history(self.room()))

    def test_left_by_an_error(self):
        for error in (Oops(), Untrue(3), KeyError("x"), NoRow(1)):
            room = self.room()
            with self.assertRaises(type(error)) as caught:
                with room.trial():
                    room += Step()
                    raise error
            self.assertIs(caught.exception, error)
            self.assertEqual(history(room), history(self.room()))

    def test_errors_of_rows_go_on(self):
        room = self.room()
        with self.assertRaises(Untrue):
            with room.trial():
                room += Step()
                room += FALSE
        self.assertEqual(history(room), history(self.room()))

    def test_taken_back_inside(self):
        room = self.room()
        with room.trial():
            self.assertIs(room.undo(), True)
            self.assertIs(room.undo(), True)
            self.assertIs(room.undo(), False)
            room += Ask(SOME)
        self.assertEqual(history(room), history(self.room()))

    def test_one_in_another(self):
        room = self.room()
        outer = state(room)
        with room.trial():
            room += Step()
            inner = state(room)
            with room.trial():
                room += Step()
                room += Ask(SOME)
                with self.assertRaises(Oops):
                    with room.trial():
                        room.undo()
                        raise Oops()
                self.assertEqual(len(room), 5)
            self.assertEqual(state(room), inner)
            room.undo()
        self.assertEqual(state(room), outer)
        self.assertEqual(history(room), history(self.room()))

    def test_as_it_was_when_it_was_entered(self):
        room = Room((2, 3))
        trial = room.trial()
        room += Say(SOME)
        room += Step()
        with trial:
            room += Step()
        self.assertEqual(history(room), history(self.room()))
        first, second = room.trial(), room.trial()
        self.assertIsNot(first, second)

    def test_without_rows(self):
        room = Room((1, 1))
        with room.trial():
            room += Step()
        self.assertEqual(history(room), history(Room((1, 1))))

    def test_within(self):
        room = self.room()

        def work(inside):
            self.assertIs(inside, room)
            inside += Step()
            return inside.do(Step()), len(inside)

        self.assertEqual(room.within(work), (((0, (True, True)),), 4))
        self.assertEqual(history(room), history(self.room()))
        room = self.room()
        self.assertIsNone(room.within(lambda inside: None))
        self.assertEqual(room.within(lambda inside: inside.within(lambda other: other.several([Step(), Step()]))),
                         (((0, (True, False)),), ((0, (True, True)),)))
        self.assertEqual(room.within(len), 2)
        self.assertEqual(history(room), history(self.room()))

    def test_within_left_by_an_error(self):
        room = self.room()
        error = Oops()

        def work(inside):
            inside.do(Step())
            raise error

        with self.assertRaises(Oops) as caught:
            room.within(work)
        self.assertIs(caught.exception, error)
        self.assertRaises(InvalidTalk, room.within, lambda inside: inside.do(7))
        self.assertEqual(history(room), history(self.room()))

    def test_a_value_that_was_found_stays(self):
        room = self.room()
        with room.trial():
            room += Step()
            line = room.line
        self.assertEqual(line, Line(5).after(Talk.read("say marked >= 1\nstep\nstep")))


class Several(unittest.TestCase):
    def test_results(self):
        room = Room((2, 3))
        rows = [Say(SOME), Times(2, [Step()]), Hands(SOME)]
        other = Room((2, 3))
        wanted = tuple(other.do(row) for row in rows)
        for sequence in (rows, tuple(rows)):
            found = room.within(lambda inside: inside.several(sequence))
            self.assertEqual(found, wanted)
            self.assertIs(type(found), tuple)
        self.assertEqual(room.several(rows), wanted)
        self.assertEqual(history(room), history(other))
        self.assertEqual(Room((1, 1)).several([]), ())
        self.assertEqual(Room((1, 1)).several(()), ())
        self.assertEqual(len(rows), 3)

    def check(self, rows, at, kind, argument):
        room = Room((2, 3))
        room += Say(SOME)
        with self.assertRaises(Refused) as caught:
            room.several(rows)
        self.assertEqual(caught.exception.at, at)
        cause = caught.exception.__cause__
        self.assertIs(type(cause), kind)
        self.assertEqual(cause.word if kind is InvalidTalk else cause.at, argument)
        other = Room((2, 3))
        other += Say(SOME)
        self.assertEqual(history(room), history(other))

    def test_untrue(self):
        self.check([FALSE], 0, Untrue, 0)
        self.check([Step(), Step(), FALSE, Step()], 2, Untrue, 0)
        self.check((Step(), If(SOME, [Ask(SOME), Say(~SOME)]), 7), 1, Untrue, 2)

    def test_any_values(self):
        for value in any_values():
            if not isinstance(value, Row):
                self.check([value], 0, InvalidTalk, "rows")
                self.check((Step(), Ask(SOME), value, FALSE), 2, InvalidTalk, "rows")
                self.check([Step(), FALSE, value], 1, Untrue, 0)

    def test_inside_a_trial(self):
        room = Room((2, 3))
        with room.trial():
            room += Say(SOME)
            self.assertRaises(Refused, room.several, [Step(), FALSE])
            self.assertEqual(len(room), 1)
        self.assertEqual(history(room), history(Room((2, 3))))

    def test_each_row_can_be_taken_back(self):
        room = Room((2, 3))
        room.several([Say(SOME), Step(), Step()])
        self.assertEqual(len(room), 3)
        room.undo()
        self.assertEqual(str(room.talk), "say marked >= 1\nstep")


if __name__ == "__main__":
    unittest.main()
