"""Promises [30] and [31], and what [1], [2] and [3] say of desks."""

import random
import unittest

from foreheads.alike import least_breach
from foreheads.desk import Desk
from foreheads.errors import InvalidCommand, Untrue
from foreheads.runs import heard
from foreheads.talks import Talk
from foreheads.told import told

from samples import any_values
from terms import all_lines, drawn_question, drawn_row, is_question, lines_of, numbered, rows_of, saying_of, text_of


def state(desk):
    return desk.say("show"), str(desk.talk), len(desk)


class Mirror:
    """What a desk must answer, by the other modules: it keeps all talks so far as rows that are plain tuples."""

    def __init__(self):
        self.kept = [()]

    def talk(self):
        return Talk(rows_of(self.kept[-1]))

    def put(self, terms):
        self.kept.append(terms)
        return str(len(numbered(terms)))

    def show(self):
        return " ; ".join(all_lines(self.kept[-1], least=True)) or "-"

    def undo(self):
        if len(self.kept) == 1:
            return "nothing"
        self.kept.pop()
        return "undone"

    def where(self, term):
        return str(told(self.talk()).where(saying_of(term)))

    def sure(self, term):
        breach = least_breach(self.talk(), saying_of(term))
        return "yes" if breach is None else "no {} {}".format(*breach)

    def hear(self, crowd):
        letter = {True: "y", False: "n", None: "-"}
        try:
            answers = [answer for _, answer in heard(self.talk(), crowd)]
        except Untrue as error:
            return f"untrue {error.at}"
        words = ["".join(letter[part] for part in answer) if isinstance(answer, tuple) else ("no", "yes")[answer]
                 for answer in answers]
        return " ".join(words) or "-"

    def wait(self, crowd):
        behind = told(self.talk())
        if crowd not in behind.goes:
            return "untrue"
        return str(behind.wait()(crowd) or "never")


def drawn_command(chance, mirror, **sizes):
    """A command, and what answers it."""
    while True:
        head = chance.choice(("row", "row", "read", "show", "undo", "where", "sure", "wait", "hear"))
        terms, term = drawn_question(chance, **sizes)
        row = drawn_row(chance, 0, 1)
        if is_question(mirror.kept[-1] + (row,) * (head == "row"), [term]):
            break
    small, great = (chance.randint(0, 9), chance.randint(0, 4)), (chance.randint(0, 9999), chance.randint(0, 10 ** 9 - 1))
    if head == "row":
        return f"row {lines_of(row)[0]}", lambda: mirror.put(mirror.kept[-1] + (row,))
    if head == "read":
        return " ".join(["read"] + [" ; ".join(all_lines(terms))] * bool(terms)), lambda: mirror.put(terms)
    if head in ("where", "sure"):
        return f"{head} {text_of(term)}", lambda: vars(Mirror)[head](mirror, term)
    if head == "wait":
        crowd = chance.choice((small, great, great[::-1]))
        return "wait {} {}".format(*crowd), lambda: mirror.wait(crowd)
    if head == "hear":
        return "hear {} {}".format(*small), lambda: mirror.hear(small)
    return head, lambda: vars(Mirror)[head](mirror)


class AgainstTheOtherModules(unittest.TestCase):
    def test_commands_in_any_order(self):
        chance = random.Random(1)
        heads = []
        for _ in range(70):
            desk, mirror = Desk(), Mirror()
            for _ in range(12):
                command, answer = drawn_command(chance, mirror, layers=1)
                heads.append(command.split(" ")[0])
                self.assertEqual(desk.say(command), answer(), command)
                self.assertEqual(state(desk), (mirror.show(), str(mirror.talk()), len(mirror.talk())))
                self.assertEqual(desk.talk, mirror.talk())
        for head in ("row", "read", "show", "undo", "where", "sure", "wait", "hear"):
            self.assertGreater(heads.count(head), 40)

    def test_sizes(self):
        chance = random.Random(2)
        for _ in range(12):
            terms, term = drawn_question(chance, rows=6, number=6, layers=3, blocks=3)
            desk, mirror = Desk(), Mirror()
            self.assertEqual(desk.say(" ; ".join(["read " + all_lines(terms)[0]] + all_lines(terms)[1:]) if terms else "read"),
                             mirror.put(terms))
            self.assertEqual(desk.say(f"where {text_of(term)}"), mirror.where(term))
            self.assertEqual(desk.say(f"sure {text_of(term)}"), mirror.sure(term))
            for marked in (0, 1, 2, 20, 39, 40):
                self.assertEqual(desk.say(f"hear {marked} {40 - marked}"), mirror.hear((marked, 40 - marked)))
                for crowd in ((marked, 40 - marked), (marked * 1000, 7000), (marked, 10 ** 9 - 1), (10 ** 9 - 2, marked)):
                    self.assertEqual(desk.say("wait {} {}".format(*crowd)), mirror.wait(crowd))


class ByHand(unittest.TestCase):
    def check(self, *pairs):
        desk = Desk()
        for command, answer in pairs:
            found = desk.say(command)
            self.assertEqual(found, answer, command)
            self.assertIs(type(found), str)
        return desk

    def test_example(self):
        d = Desk()
        self.assertEqual((d.say("read say marked >= 1 ; step ; ask silent"), d.say("hear 2 0"), d.say("wait 4 1"),
                          d.say("sure sure plain")), ("3", "yes n- no", "2", "no 3 1"))

    def test_empty_desk(self):
        desk = self.check(("show", "-"), ("hear 3 4", "-"), ("hear 0 0", "-"), ("wait 3 4", "never"), ("undo", "nothing"),
                          ("where silent", "[0 0 1 1: +]"), ("where marked >= 1", "[1 0 1 1: - +]"), ("sure silent", "yes"),
                          ("sure marked >= 1", "no 0 0"), ("sure plain >= 0", "yes"), ("read", "0"), ("show", "-"),
                          ("undo", "undone"), ("undo", "nothing"))
        self.assertEqual((desk.talk, len(desk)), (Talk(), 0))

    def test_rows(self):
        desk = self.check(("row say marked >= 1", "1"), ("row step", "2"), ("row ask plain by 2 leaves 1", "3"),
                          ("row hands [1 0 1 1: - +]", "4"), ("show", "say marked >= 1 ; step ; ask plain by 2 leaves 1 ; "
                                                              "hands [1 0 1 1: - +]"))
        self.assertEqual(str(desk.talk), "say marked >= 1\nstep\nask plain by 2 leaves 1\nhands [1 0 1 1: - +]")
        self.assertEqual(len(desk), 4)

    def test_read(self):
        desk = self.check(("read times 2 ; step ; end", "2"), ("row step", "3"), ("show", "times 2 ; step ; end ; step"),
                          ("read if silent ; else ; step ; end", "2"), ("show", "if silent ; else ; step ; end"),
                          ("read step", "1"), ("read", "0"), ("show", "-"))
        self.assertEqual(len(desk), 0)
        # Tables need not be the least ones; what is shown is.
        self.check(("read ask [1 1 1 1: ++ ++] ; hands [0 0 2 1: - +]", "2"),
                   ("show", "ask [0 0 1 1: +] ; hands [0 0 2 1: - +]"))

    def test_hear(self):
        self.check(("read say marked >= 1 ; ask marked >= 2 ; hands marked >= 2 ; step ; if silent ; step ; else ; ask silent "
                    "; end", "7"),
                   ("hear 1 2", "yes no nn yy no no"), ("hear 2 0", "yes yes y- y- no no"), ("hear 1 0", "yes no n- y- no no"),
                   ("hear 0 1", "untrue 0"), ("hear 0 0", "untrue 0"), ("hear 3 37", "yes yes yy nn no no"),
                   ("hear 4 36", "yes yes yy nn yes yn"), ("hear 5 35", "yes yes yy nn yes nn"))
        self.check(("read step ; hands plain >= 0", "2"), ("hear 0 0", "-- --"), ("hear 1 0", "n- y-"), ("hear 0 1", "-n -y"),
                   ("hear 2 1", "nn yy"))
        self.check(("read step ; times 3 ; say marked >= 1 ; say silent ; step ; end", "5"), ("hear 0 3", "untrue 2"),
                   ("hear 1 3", "untrue 3"), ("hear 40 0", "n- yes yes n- yes yes n- yes yes n-"), ("hear 0 40", "untrue 2"))

    def test_wait(self):
        self.check(("read say marked >= 1", "1"), ("wait 1 0", "1"), ("wait 5000 7000", "5000"), ("wait 0 5", "untrue"),
                   ("wait 999999999 0", "999999999"), ("wait 999999999 999999999", "999999999"), ("wait 0 0", "untrue"),
                   ("row say plain >= 3", "2"), ("wait 5000 700", "698"), ("wait 5000 2", "untrue"), ("undo", "undone"),
                   ("undo", "undone"), ("wait 5000 2", "never"), ("wait 0 0", "never"), ("row ask marked by 6 leaves 0", "1"),
                   ("wait 6003 1000", "3"), ("wait 6000 1000", "1"), ("wait 0 0", "never"))

    def test_sure(self):
        self.check(("row say marked >= 2", "1"), ("sure marked >= 2", "yes"), ("sure common (marked >= 2)", "yes"),
                   ("sure marked >= 3", "no 2 0"), ("sure ~(sure marked)", "no 2 0"), ("sure sure marked", "no 3 0"),
                   ("row say plain >= 1", "2"), ("sure silent", "no 2 1"), ("sure knows plain (plain >= 2)", "no 2 1"))

    def test_where(self):
        self.check(("row say marked >= 1", "1"), ("where sure marked", "[2 0 1 1: - + -]"), ("row step", "2"),
                   ("where sure marked", "[3 0 1 1: - + + -]"), ("where (silent) & (~(silent))", "[0 0 1 1: -]"))

    def test_undo(self):
        desk = self.check(("row step", "1"), ("row ask silent", "2"), ("read say silent ; step ; step", "3"), ("undo", "undone"),
                          ("show", "step ; ask silent"), ("row say marked >= 1", "3"), ("undo", "undone"), ("undo", "undone"),
                          ("show", "step"), ("where silent", "[0 0 1 1: +]"), ("hear 1 1", "nn"), ("undo", "undone"),
                          ("undo", "nothing"), ("undo", "nothing"), ("show", "-"), ("read", "0"), ("read", "0"),
                          ("undo", "undone"), ("undo", "undone"), ("undo", "nothing"))
        self.assertEqual(len(desk), 0)


GOOD = ["row step", "row say marked >= 1", "row ask plain by 3 leaves 2", "row hands ~(silent)", "read", "read step",
        "read step ; times 2 ; ask silent ; end", "show", "where silent", "where (marked >= 1) & (plain >= 2)",
        "sure sure plain", "wait 4 1", "wait 123456789 0", "hear 2 0", "hear 20 20", "undo", "where [0 0 1 1: +]"]
BAD = ["", " ", "rows", "Show", "show ", " show", "show 1", "shows", "undo ", "undo 1", "undo undo", "read ", " read", "readstep",
       "read  step", "read step ", "read step ;", "read step ; ", "read ; step", "read step;step", "read step ;step",
       "read step ; ; step", "read step  ; step", "read step ;  step", "read end", "read times 2 ; step", "read if silent",
       "read if silent ; else ; end", "read times 10 ; end", "read marked >= 1", "read step ; end", "read -", "row", "row ",
       "row  step", "row step ", "row stepp", "row step ; step", "row if silent", "row times 2", "row end", "row else", "row say",
       "row say ", "row say marked >= 12345", "row say marked >= 01", "row marked >= 1", "row ask plain by 3 leaves 3", "row -",
       "where", "where ", "where  silent", "where silent ", "where sure", "where marked >= 1 & plain >= 1", "where [0 0 1 1: ++]",
       "sure", "sure ", "sure both", "sure plain", "sure (silent)", "wait", "wait ", "wait 1", "wait 1 ", "wait  1 2", "wait 1  2",
       "wait 1 2 ", "wait 1 2 3", "wait 01 2", "wait 1 02", "wait 00 1", "wait 1234567890 1", "wait 1 1234567890", "wait -1 2",
       "wait +1 2", "wait 1.0 2", "wait a b", "wait 1,2", "wait (1, 2)", "wait 1_0 2", "wait 0x1 2", "hear", "hear ", "hear 1",
       "hear 1 2 3", "hear  1 2", "hear 1  2", "hear 1 2 ", "hear 41 0", "hear 20 21", "hear 0 41", "hear 123456789 987654321",
       "hear 01 2", "hear -1 3", "hear 1 x", "step", "silent", "?", "help", "wait 1 2; show", "show ; show"]


class WrongCommands(unittest.TestCase):
    def check(self, command):
        desk = Desk()
        for good in ("row say marked >= 1", "read step ; ask silent", "row hands plain >= 1"):
            desk.say(good)
        before = state(desk)
        with self.assertRaises(InvalidCommand):
            desk.say(command)
        self.assertEqual(state(desk), before)
        self.assertEqual([desk.say("undo") for _ in range(4)], ["undone"] * 3 + ["nothing"])
        self.assertRaises(InvalidCommand, Desk().say, command)

    def test_other_words(self):
        for command in BAD:
            self.check(command)

    def test_any_value(self):
        for value in any_values() + [b"show", ["show"], ("undo",), {"show": 1}, Desk(), 1.5]:
            self.check(value)

    def test_newlines(self):
        for command in GOOD:
            Desk().say(command)
            for wrong in (command + "\n", "\n" + command, command.replace(" ", "\n", 1)):
                if "\n" in wrong:
                    self.check(wrong)
        self.check("read step\nstep")
        self.check("read step ;\nstep")
        self.check("\n")

    def test_blanks(self):
        for command in GOOD:
            self.check(command + " ")
            self.check(" " + command)
            for at, char in enumerate(command):
                if char == " ":
                    self.check(command[:at] + " " + command[at:])

    def test_one_character_put_in_or_left_out(self):
        chance = random.Random(3)
        for _ in range(400):
            command = chance.choice(GOOD)
            at = chance.randrange(len(command) + 1)
            wrong = command[:at] + chance.choice(["", chance.choice("abswx ;~()[1+")]) + command[at + chance.randint(0, 1):]
            desk = Desk()
            desk.say("row ask silent")
            before = state(desk)
            try:
                answer = desk.say(wrong)
            except InvalidCommand:
                self.assertEqual(state(desk), before)
                self.assertEqual(desk.say("undo"), "undone")
            else:
                self.assertIn(wrong.split(" ")[0], ("row", "read", "show", "where", "sure", "wait", "hear", "undo"))
                self.assertIs(type(answer), str)


class Objects(unittest.TestCase):
    def test_by_name(self):
        self.assertEqual(Desk().say(command="show"), "-")

    def test_not_iterable(self):
        desk = Desk()
        desk.say("row step")
        self.assertRaises(TypeError, iter, desk)
        self.assertRaises(TypeError, list, desk)
        with self.assertRaises(TypeError):
            "step" in desk

    def test_questions_change_nothing(self):
        desk = Desk()
        desk.say("read say marked >= 1 ; step")
        before = state(desk)
        for command in GOOD[7:15] + ["hear 0 3", "wait 0 0"]:
            self.assertEqual(desk.say(command), desk.say(command))
            self.assertEqual(state(desk), before)

    def test_desks_do_not_share_anything(self):
        one, other = Desk(), Desk()
        one.say("row step")
        self.assertEqual((len(one), len(other)), (1, 0))
        talk = one.talk
        one.say("row ask silent")
        self.assertEqual(str(talk), "step")

    def test_long_texts(self):
        desk = Desk()
        command = "read " + " ; ".join(["ask (marked >= 1) & ((plain by 6 leaves 5) | (silent))"] * 12)
        self.assertEqual(desk.say(command), "12")
        self.assertEqual("read " + desk.say("show"), command)
        self.assertEqual(desk.talk, Talk(rows_of([("ask", ("&", ("least", "marked", 1), (
            "|", ("rest", "plain", 5, 6), ("silent",))))] * 12)))


if __name__ == "__main__":
    unittest.main()
