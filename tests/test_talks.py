"""Promises [12], [13] and [14], and what [2] and [3] say of rows and talks."""

import itertools
import operator
import random
import re
import unittest

from foreheads.crowds import Crowds
from foreheads.errors import InvalidTalk, InvalidText, NoRow
from foreheads.runs import heard
from foreheads.sayings import AtLeast, Fact, Saying, Silent, Sure
from foreheads.sayingtexts import read_saying
from foreheads.talks import Ask, Hands, If, Row, Say, Step, Talk, Times

from samples import any_values, is_integer
from terms import all_lines, drawn_rows, lines_of, numbered, row_of, rows_of

SILENT = Silent()


def drawn_talks(many, seed, blocks=3):
    chance = random.Random(seed)
    return [drawn_rows(chance, blocks, chance.randint(0, 4)) for _ in range(many)]


def without(terms, at):
    """The rows without the one with a number, by the lists of which they are made."""
    kept = []
    for term in terms:
        many = len(numbered([term]))
        if not 0 <= at < many:
            kept.append(term)
        elif at > 0 and term[0] == "times":
            kept.append((*term[:2], without(term[2], at - 1)))
        elif at > 0:
            before = len(numbered(term[2]))
            kept.append((*term[:2], without(term[2], at - 1), without(term[3], at - 1 - before)))
        at -= many
    return tuple(kept)


def is_rows(value):
    return isinstance(value, (list, tuple)) and all(isinstance(part, Row) for part in value)


class Making(unittest.TestCase):
    def test_attributes(self):
        for kind in (Say, Ask, Hands):
            self.assertIs(kind(SILENT).saying, SILENT)
            self.assertEqual(kind(saying=SILENT), kind(SILENT))
        one, other = Step(), Ask(SILENT)
        row = If(SILENT, [one], (other, one))
        self.assertIs(row.saying, SILENT)
        self.assertEqual(tuple(map(id, row.rows)), (id(one),))
        self.assertEqual(tuple(map(id, row.others)), (id(other), id(one)))
        row = Times(9, [other])
        self.assertEqual((row.many, row.rows[0]), (9, other))
        self.assertEqual(tuple(map(id, Talk([one, other]).rows)), (id(one), id(other)))

    def test_rows_and_others_are_tuples(self):
        for kind in (list, tuple):
            for value in (If(SILENT, kind(), kind()), If(SILENT, kind([Step()]), kind([Step()])), If(SILENT, kind())):
                self.assertIs(type(value.rows), tuple)
                self.assertIs(type(value.others), tuple)
            for value in (Times(1, kind()), Times(1, kind([Step()])), Talk(kind()), Talk(kind([Step()]))):
                self.assertIs(type(value.rows), tuple)
        self.assertEqual((If(SILENT, []).others, Talk().rows), ((), ()))

    def test_by_name(self):
        step = Step()
        self.assertEqual(str(If(others=[step], rows=[], saying=SILENT)), "if silent\nelse\nstep\nend")
        self.assertEqual(str(Times(rows=[step], many=2)), "times 2\nstep\nend")
        self.assertEqual(str(Talk(rows=[step])), "step")
        self.assertEqual(Talk.read(text="step"), Talk([step]))
        self.assertEqual(Talk([step, step]).without(at=1), Talk([step]))
        self.assertEqual(Talk([step])(crowd=(1, 1)), ((0, (False, False)),))

    def test_arguments_that_change_later(self):
        rows, others = [Step()], [Ask(SILENT)]
        values = [If(SILENT, rows, others), Times(2, rows), Talk(rows)]
        texts = [str(value) for value in values]
        rows.append(Say(SILENT))
        others.clear()
        self.assertEqual([str(value) for value in values], texts)
        self.assertEqual((len(rows), len(others)), (2, 0))

    def test_attributes_are_set_when_created(self):
        for value, names in ((Say(SILENT), {"saying"}), (Ask(SILENT), {"saying"}), (Hands(SILENT), {"saying"}),
                             (If(SILENT, []), {"saying", "rows", "others"}), (Times(1, []), {"many", "rows"}),
                             (Talk(), {"rows"})):
            self.assertTrue(names <= set(vars(value)))

    def test_row_itself(self):
        self.assertRaises(TypeError, Row)
        for row in (Say(SILENT), Ask(SILENT), Hands(SILENT), Step(), If(SILENT, []), Times(1, [])):
            self.assertIsInstance(row, Row)
        self.assertNotIsInstance(Talk(), Row)

    def test_not_iterable(self):
        for value in (Talk(), Talk([Step()]), Step(), Say(SILENT), If(SILENT, [Step()]), Times(2, [Step()])):
            self.assertRaises(TypeError, iter, value)
            self.assertRaises(TypeError, list, value)
            self.assertRaises(TypeError, tuple, value)
            with self.assertRaises(TypeError):
                Step() in value
            with self.assertRaises(TypeError):
                for _ in value:
                    pass
            with self.assertRaises(TypeError):
                _, *_ = value


class WrongTalks(unittest.TestCase):
    def word(self, kind, *values):
        with self.assertRaises(InvalidTalk) as caught:
            kind(*values)
        return caught.exception.word

    def test_saying(self):
        for value in any_values() + [Silent, "silent"]:
            if isinstance(value, Saying):
                for kind in (Say, Ask, Hands):
                    self.assertIs(kind(value).saying, value)
                self.assertIs(If(value, []).saying, value)
            else:
                for kind in (Say, Ask, Hands):
                    self.assertEqual(self.word(kind, value), "saying")
                for rows, others in itertools.product(([], [Step()], None, "x", [1]), repeat=2):
                    self.assertEqual(self.word(If, value, rows, others), "saying")

    def test_many(self):
        for value in any_values() + list(range(-2, 14)):
            if is_integer(value) and 1 <= value <= 9:
                self.assertEqual(Times(value, [Step()]).many, value)
            else:
                for rows in ([], (Step(),), None, [1], "step", Step()):
                    self.assertEqual(self.word(Times, value, rows), "many")

    def test_rows(self):
        for value in any_values() + [[Step], [Step(), None], (Step(), [Step()]), Step(), "step", {}]:
            if is_rows(value):
                self.assertEqual(If(SILENT, value, value).rows, tuple(value))
                self.assertEqual(Times(1, value).rows, tuple(value))
                self.assertEqual(Talk(value).rows, tuple(value))
            else:
                self.assertEqual(self.word(If, SILENT, value), "rows")
                self.assertEqual(self.word(If, SILENT, value, value), "rows")
                self.assertEqual(self.word(If, SILENT, [Step()], value), "rows")
                self.assertEqual(self.word(If, SILENT, (), value), "rows")
                self.assertEqual(self.word(Times, 2, value), "rows")
                self.assertEqual(self.word(Talk, value), "rows")

    def test_any_value_among_rows(self):
        for value in any_values():
            if not isinstance(value, Row):
                for rows in ([value], (Step(), value), [value, Step()]):
                    self.assertEqual(self.word(If, SILENT, rows), "rows")
                    self.assertEqual(self.word(If, SILENT, [], rows), "rows")
                    self.assertEqual(self.word(Times, 3, rows), "rows")
                    self.assertEqual(self.word(Talk, rows), "rows")

    def test_wrong_number_of_arguments(self):
        for kind, values in ((Say, []), (Ask, []), (Hands, []), (Step, [1]), (If, [SILENT]), (Times, [1]), (Talk, [[], []])):
            self.assertRaises(TypeError, kind, *values)


class Numbers(unittest.TestCase):
    def test_each_number(self):
        for terms in drawn_talks(150, 1):
            talk, found = Talk(rows_of(terms)), numbered(terms)
            before = str(talk)
            self.assertEqual(len(talk), len(found))
            for at, term in enumerate(found):
                self.assertEqual(str(talk[at]), "\n".join(lines_of(term, least=True)))
                self.assertIs(type(talk[at]), type(row_of(term)))
                self.assertEqual(str(talk.without(at)), "\n".join(all_lines(without(terms, at), least=True)))
                self.assertIs(type(talk.without(at)), Talk)
                self.assertEqual(len(talk.without(at)), len(found) - len(numbered([term])))
            self.assertEqual(str(talk), before)

    def test_the_very_rows(self):
        inner, last = Ask(SILENT), Step()
        block = Times(2, [inner])
        talk = Talk([If(SILENT, [block]), last])
        self.assertIs(talk[1], block)
        self.assertIs(talk[2], inner)
        self.assertIs(talk[3], last)

    def test_no_row(self):
        for terms in drawn_talks(40, 2):
            talk = Talk(rows_of(terms))
            for at in (-1, -2, -len(talk), -len(talk) - 1, len(talk), len(talk) + 1, 10 ** 30, -10 ** 30):
                if not 0 <= at < len(talk):
                    for call in (lambda: talk[at], lambda: talk.without(at)):
                        with self.assertRaises(NoRow) as caught:
                            call()
                        self.assertEqual(caught.exception.at, at)
        self.assertRaises(NoRow, lambda: Talk()[0])
        self.assertRaises(NoRow, Talk().without, 0)
        self.assertRaises(NoRow, lambda: Talk([Step()])[-1])

    def test_emptied_blocks_stay(self):
        talk = Talk([If(SILENT, [Step()], [Times(3, [Step()])])])
        self.assertEqual(str(talk.without(1)), "if silent\nelse\ntimes 3\nstep\nend\nend")
        self.assertEqual(str(talk.without(2)), "if silent\nstep\nend")
        self.assertEqual(str(talk.without(3)), "if silent\nstep\nelse\ntimes 3\nend\nend")
        self.assertEqual(str(talk.without(2).without(1)), "if silent\nend")
        self.assertEqual(talk.without(0), Talk())
        self.assertEqual(len(talk.without(2).without(1)), 1)

    def test_equal_rows_are_told_apart_by_their_numbers(self):
        talk = Talk([Step(), If(SILENT, [Step()], [Step()]), Step()])
        texts = [str(talk.without(at)) for at in range(5)]
        self.assertEqual(texts, ["if silent\nstep\nelse\nstep\nend\nstep", "step\nstep",
                                 "step\nif silent\nelse\nstep\nend\nstep", "step\nif silent\nstep\nend\nstep",
                                 "step\nif silent\nstep\nelse\nstep\nend"])


class Signs(unittest.TestCase):
    def test_sum(self):
        talks = [Talk(rows_of(terms)) for terms in drawn_talks(12, 3)] + [Talk()]
        for p, q in itertools.product(talks, repeat=2):
            before = str(p), str(q)
            both = p + q
            self.assertIs(type(both), Talk)
            self.assertEqual(both.rows, p.rows + q.rows)
            self.assertEqual(len(both), len(p) + len(q))
            self.assertEqual(str(both), "\n".join(text for text in before if text))
            self.assertEqual((str(p), str(q)), before)

    def test_product(self):
        for terms in drawn_talks(20, 4):
            talk = Talk(rows_of(terms))
            for many in range(10):
                self.assertEqual((talk * many).rows, talk.rows * many)
                self.assertEqual(many * talk, talk * many)
                self.assertEqual(len(many * talk), many * len(talk))
                self.assertIs(type(many * talk), Talk)
            self.assertEqual(talk * 0, Talk())
            self.assertEqual(str(talk), "\n".join(all_lines(terms, least=True)))

    def test_in_place(self):
        for in_place, value, wanted in ((operator.iadd, Talk([Ask(SILENT)]), "step\nask silent"),
                                        (operator.iadd, Talk(), "step"), (operator.imul, 2, "step\nstep"),
                                        (operator.imul, 1, "step"), (operator.imul, 0, "")):
            kept = same = Talk([Step()])
            same = in_place(same, value)
            self.assertIsNot(same, kept)
            self.assertEqual((str(kept), str(same)), ("step", wanted))

    def test_anything_else(self):
        talk = Talk([Step()])
        for value in any_values():
            if not isinstance(value, Talk):
                self.assertRaises(TypeError, operator.add, talk, value)
                self.assertRaises(TypeError, operator.add, value, talk)
            if not is_integer(value):
                self.assertRaises(TypeError, operator.mul, talk, value)

    def test_call(self):
        for text in ("say marked >= 1\nstep\nif silent\nstep\nend", "", "hands plain >= 1\ntimes 2\nstep\nend"):
            for crowd in ((2, 1), (1, 0), (3, 4)):
                talk = Talk.read(text)
                self.assertEqual(talk(crowd), heard(talk, crowd))


class Equality(unittest.TestCase):
    def test_rows_exactly_if_the_texts_are(self):
        terms = [term for talk in drawn_talks(25, 5, 2) for term in talk][:60]
        ones, others = [row_of(term) for term in terms], [row_of(term) for term in terms]
        for one, other in itertools.product(ones, others):
            self.assertIs(one == other, str(one) == str(other))
            self.assertIs(one != other, str(one) != str(other))

    def test_talks_exactly_if_the_texts_are(self):
        talks = [Talk(rows_of(terms)) for terms in drawn_talks(60, 6)]
        for one, other in itertools.product(talks, repeat=2):
            self.assertIs(one == other, str(one) == str(other))
        for talk in talks:
            self.assertEqual(talk, Talk.read(str(talk)))

    def test_facts(self):
        greater = Crowds((2, 1), (2, 2), ["---", "+++", "+++", "+++"])
        self.assertEqual(Say(Fact(greater)), Say(Fact(Crowds.at_least("marked", 1))))
        self.assertNotEqual(Say(Fact(greater)), Say(AtLeast("marked", 1)))

    def test_one_part_differs(self):
        rows = [Say(SILENT), Ask(SILENT), Hands(SILENT), Step(), Say(~SILENT), If(SILENT, []), If(~SILENT, []),
                If(SILENT, [Step()]), If(SILENT, [], [Step()]), If(SILENT, [Step()], [Step()]), Times(1, []),
                Times(2, []), Times(1, [Step()]), If(SILENT, [Times(1, [])]), Times(1, [If(SILENT, [])])]
        for one, other in itertools.product(enumerate(rows), repeat=2):
            self.assertIs(one[1] == other[1], one[0] == other[0])
            self.assertIs(Talk([one[1]]) == Talk([other[1]]), one[0] == other[0])

    def test_equal_to_nothing_else(self):
        for terms in drawn_talks(10, 7):
            for value in any_values() + [str(Talk(rows_of(terms))), rows_of(terms)]:
                talk = Talk(rows_of(terms))
                if not isinstance(value, Talk):
                    self.assertIs(talk == value, False)
                    self.assertIs(talk != value, True)
                    self.assertIs(value == talk, False)
                for row in talk.rows:
                    if not isinstance(value, Row):
                        self.assertIs(row == value, False)
                        self.assertIs(value == row, False)
        self.assertNotEqual(Talk([Step()]), Step())
        self.assertNotEqual(Step(), Talk([Step()]))


def is_saying(text):
    try:
        read_saying(text)
    except InvalidText:
        return False
    return True


def letter_of(line):
    """What a line can be: s for a row alone, i, t, e, n for the lines of blocks, x for none of these."""
    if line in ("step", "else", "end"):
        return {"step": "s", "else": "e", "end": "n"}[line]
    if re.fullmatch("times [1-9]", line):
        return "t"
    found = re.fullmatch("(say|ask|hands|if) (.*)", line)
    if found is None or not is_saying(found[2]):
        return "x"
    return "i" if found[1] == "if" else "s"


def is_talk(letters):
    """Whether these are the lines of a talk: each block whose rows are read counts as a row alone."""
    while True:
        less = re.sub("is*(es+)?n|ts*n", "s", letters)
        if less == letters:
            return re.fullmatch("s*", letters) is not None
        letters = less


def can_go_on(letters):
    return any(is_talk(letters + row + "n" * many) for row in ("", "s") for many in range(len(letters) + 1))


def first_wrong(text):
    """The second way: the number of the first line with which no talk can go on, or the number of lines."""
    lines = text.split("\n") if text else []
    letters = "".join(map(letter_of, lines))
    for at in range(len(lines)):
        if not can_go_on(letters[:at + 1]):
            return at
    return len(lines)


class Texts(unittest.TestCase):
    def wrong(self, text):
        with self.assertRaises(InvalidText) as caught:
            Talk.read(text)
        return caught.exception.at

    def check(self, lines):
        text = "\n".join(lines)
        letters = "".join(map(letter_of, lines)) if text else ""
        if "x" not in letters and is_talk(letters):
            self.assertEqual(len(Talk.read(text)), len(lines) - letters.count("e") - letters.count("n") if text else 0)
        else:
            self.assertEqual(self.wrong(text), first_wrong(text), text)

    def test_text_of_each_row(self):
        self.assertEqual(str(Say(AtLeast("marked", 1))), "say marked >= 1")
        self.assertEqual(str(Ask(Sure("plain"))), "ask sure plain")
        self.assertEqual(str(Hands(~SILENT)), "hands ~(silent)")
        self.assertEqual(str(Step()), "step")
        self.assertEqual(str(If(SILENT, [])), "if silent\nend")
        self.assertEqual(str(If(SILENT, [Step()], [])), "if silent\nstep\nend")
        self.assertEqual(str(If(SILENT, [], [Step()])), "if silent\nelse\nstep\nend")
        self.assertEqual(str(Times(2, [Step(), Step()])), "times 2\nstep\nstep\nend")
        self.assertEqual(str(Times(9, [])), "times 9\nend")
        self.assertEqual(str(Talk()), "")
        self.assertEqual(str(Talk([Step(), Times(1, [Step()])])), "step\ntimes 1\nstep\nend")

    def test_texts_of_all_kinds_of_talks(self):
        for terms in drawn_talks(200, 8):
            talk, text = Talk(rows_of(terms)), "\n".join(all_lines(terms))
            self.assertEqual(str(talk), "\n".join(all_lines(terms, least=True)))
            for found in (Talk.read(text), Talk.read(str(talk))):
                self.assertEqual(str(found), str(talk))
                self.assertEqual(found, talk)
                self.assertEqual(len(found), len(talk))
                self.assertIs(type(found), Talk)
            for term in terms:
                self.assertEqual(str(row_of(term)), "\n".join(lines_of(term, least=True)))

    def test_classes_of_what_is_read(self):
        talk = Talk.read("say silent\nask silent\nhands silent\nstep\nif silent\nelse\nstep\nend\ntimes 7\nend")
        self.assertEqual([type(row) for row in talk.rows], [Say, Ask, Hands, Step, If, Times])
        self.assertEqual((talk.rows[4].rows, len(talk.rows[4].others)), ((), 1))
        self.assertEqual((talk.rows[5].many, talk.rows[5].rows), (7, ()))

    def test_empty_text(self):
        self.assertEqual(Talk.read(""), Talk())
        self.assertEqual(Talk.read("").rows, ())

    def test_tables_that_are_not_the_least(self):
        talk = Talk.read("say [2 1 2 2: --- +++ +++ +++]\nif [0 0 1 2: ++]\nend")
        self.assertEqual(str(talk), "say [1 0 1 1: - +]\nif [0 0 1 1: +]\nend")

    def test_wrong_lines(self):
        for line in ("", " ", "x", "Step", "step ", " step", "steps", "step silent", "say", "say ", "say silent ",
                     "say  silent", "say x", "ask", "ask silen", "hand silent", "hands", "if", "if ", "ifsilent",
                     "say(silent)", "say [0 0 1 1: ++]", "say marked >= 12345", "ask plain by 3 leaves 3", "times", "times ",
                     "times 0", "times 10", "times 12", "times 02", "times 2 ", "times  2", "times two", "times -1",
                     "times +1", "end", "else", "end ", "else ", "elif silent", "silent", "say silent\\n", "if silent then",
                     "row step", "1"):
            for before in ([], ["step"], ["step", "if silent", "step", "end"]):
                lines = [*before, line]
                if lines != [""]:
                    self.assertEqual(self.wrong("\n".join(lines)), len(before), lines)
                    self.assertEqual(self.wrong("\n".join([*lines, "step"])), len(before), lines)
                    self.assertEqual(first_wrong("\n".join([*lines, "step"])), len(before), lines)

    def test_blocks(self):
        for text, at in (("else", 0), ("end", 0), ("step\nend", 1), ("if silent\nelse\nend", 2), ("if silent\nelse", 2),
                         ("if silent", 1), ("if silent\nelse\nstep\nelse", 3), ("if silent\nelse\nelse", 2),
                         ("if silent\nelse\nstep", 3), ("times 2", 1), ("times 2\nelse", 1), ("times 2\nstep\nelse", 2),
                         ("times 2\nstep\nend\nend", 3), ("if silent\ntimes 2\nend", 3), ("if silent\ntimes 2\nelse", 2),
                         ("if silent\nelse\ntimes 2\nend\nelse", 4), ("if silent\nelse\nif silent\nend", 4),
                         ("if silent\nelse\nif silent\nelse\nend", 4), ("times 3\nif silent\nstep\nend", 4),
                         ("step\n", 1), ("\nstep", 0), ("\n", 0), ("step\n\nstep", 1), ("if silent\n\nend", 1),
                         ("if silent\nend\n", 2), ("times 1\nsay\nend", 1)):
            self.assertEqual(self.wrong(text), at, text)
            self.assertEqual(first_wrong(text), at, text)

    def test_all_short_talks(self):
        lines = {"s": "step", "i": "if silent", "t": "times 2", "e": "else", "n": "end"}
        for many in range(6):
            for letters in itertools.product("siten", repeat=many):
                self.check([lines[letter] for letter in letters])

    def test_changed_talks(self):
        chance = random.Random(9)
        spare = ["step", "else", "end", "", "if silent", "times 3", "say silent", "times 10", "ask", "x"]
        for terms in drawn_talks(400, 10):
            lines = all_lines(terms)
            for _ in range(chance.randint(1, 3)):
                at = chance.randint(0, len(lines))
                change = chance.choice(("out", "in", "exchange", "move"))
                if change == "in":
                    lines.insert(at, chance.choice(spare + lines))
                elif at < len(lines):
                    line = lines.pop(at)
                    if change == "exchange":
                        lines.insert(at, chance.choice(spare))
                    if change == "move":
                        lines.insert(chance.randint(0, len(lines)), line)
            self.check(lines)

    def test_changed_lines(self):
        chance = random.Random(11)
        for terms in drawn_talks(200, 12):
            lines = all_lines(terms)
            if lines:
                at = chance.randrange(len(lines))
                place = chance.randint(0, len(lines[at]))
                lines[at] = lines[at][:place] + chance.choice((" ", "x", "1", ")", "")) + lines[at][place + 1:]
                self.check(lines)

    def test_missing_ends(self):
        for terms in drawn_talks(100, 13):
            lines = all_lines(terms)
            while lines and lines[-1] == "end":
                lines.pop()
                self.assertEqual(self.wrong("\n".join(lines)), len(lines))

    def test_twenty_blocks(self):
        for head, turn in (("times 2", []), ("if silent", []), ("if silent", ["else"])):
            lines = [head, *turn] * 20 + ["step"] + ["end"] * 20
            talk = Talk.read("\n".join(lines))
            self.assertEqual(len(talk), 21)
            self.assertEqual(str(talk), "\n".join(lines))
            self.assertEqual(str(talk[20]), "step")
            self.assertEqual(len(talk.without(20)), 20)
            self.assertEqual(self.wrong("\n".join(lines[:-1])), len(lines) - 1)
            self.assertEqual(self.wrong("\n".join([*lines, "end"])), len(lines))

    def test_two_thousand_signs(self):
        text = "\n".join(["say (marked >= 1) & (plain >= 1)"] * 60)
        self.assertGreater(len(text), 1900)
        self.assertEqual(str(Talk.read(text)), text)
        self.assertEqual(self.wrong(text + "\n"), 60)
        self.assertEqual(self.wrong("step\n" * 399 + "stop"), 399)
        self.assertEqual(len(Talk.read("\n".join(["step"] * 400))), 400)


if __name__ == "__main__":
    unittest.main()
