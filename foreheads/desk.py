"""Desks: commands about one talk, and their answers, as texts."""

from foreheads.alike import least_breach
from foreheads.errors import InvalidCommand, InvalidText, Untrue
from foreheads.runs import heard
from foreheads.sayingtexts import read_saying
from foreheads.talks import Talk
from foreheads.told import told

MOST_DIGITS = 9
MOST_HEARING = 40


class Desk:
    """A talk, and those that were there ahead of each command that put another one in its place."""

    def __init__(self):
        self.talks = (Talk(),)

    @property
    def talk(self):
        """The talk as it is now."""
        return self.talks[-1]

    def __len__(self):
        return len(self.talk)

    def say(self, command):
        """Does a command, and returns its answer."""
        if not isinstance(command, str) or "\n" in command:
            raise InvalidCommand()
        head, blank, rest = command.partition(" ")
        if blank:
            return self.say_about(head, rest)
        if head == "read":
            return self.keep(Talk())
        if head == "show":
            return str(self.talk).replace("\n", " ; ") or "-"
        if head == "undo":
            return self.undo()
        raise InvalidCommand()

    def say_about(self, head, rest):
        """Does a command with something behind its first word."""
        if head == "row":
            return self.keep(self.talk + _read_talk(rest))
        if head == "read":
            return self.keep(_read_talk(rest.replace(" ; ", "\n")))
        if head == "where":
            return str(told(self.talk).where(_read_saying(rest)))
        if head == "sure":
            return self.sure_of(_read_saying(rest))
        if head == "wait":
            return self.wait_in(_read_crowd(rest))
        if head == "hear":
            return self.hear_in(_read_crowd(rest))
        raise InvalidCommand()

    def keep(self, talk):
        """Puts a talk in place of the one that is there; the number of its rows."""
        self.talks = (*self.talks, talk)
        return str(len(talk))

    def undo(self):
        """Takes the last talk back, if there was one ahead of it."""
        if len(self.talks) == 1:
            return "nothing"
        self.talks = self.talks[:-1]
        return "undone"

    def sure_of(self, saying):
        """Whether a saying holds in all crowds, or the least one in which it does not."""
        breach = least_breach(self.talk, saying)
        return "yes" if breach is None else f"no {breach[0]} {breach[1]}"

    def wait_in(self, crowd):
        """In which round of steps somebody first steps forward in a crowd."""
        behind = told(self.talk)
        if crowd not in behind.goes:
            return "untrue"
        wait = behind.wait()
        number = wait(crowd)
        return "never" if number is None else str(number)

    def hear_in(self, crowd):
        """What is heard and seen in a crowd."""
        if crowd[0] + crowd[1] > MOST_HEARING:
            raise InvalidCommand()
        try:
            answers = heard(self.talk, crowd)
        except Untrue as error:
            return f"untrue {error.at}"
        return " ".join([_text_of(answer) for _, answer in answers]) or "-"


def _read_talk(text):
    """The talk with a text of at least one line."""
    if text == "":
        raise InvalidCommand()
    try:
        return Talk.read(text)
    except InvalidText:
        raise InvalidCommand() from None


def _read_saying(text):
    """The saying with a text."""
    try:
        return read_saying(text)
    except InvalidText:
        raise InvalidCommand() from None


def _read_crowd(text):
    """The crowd of two numbers."""
    words = text.split(" ")
    if len(words) != 2 or not all([_is_number(word) for word in words]):
        raise InvalidCommand()
    return (int(words[0]), int(words[1]))


def _is_number(word):
    """Whether a word is a number of so few digits, without leading zeros."""
    if word == "" or len(word) > MOST_DIGITS or word.strip("0123456789") != "":
        return False
    return word == "0" or not word.startswith("0")


def _text_of(answer):
    """The text of what is heard, or of what the marked people and the plain ones do."""
    if isinstance(answer, tuple):
        return _letter_of(answer[0]) + _letter_of(answer[1])
    return "yes" if answer else "no"


def _letter_of(answer):
    if answer is None:
        return "-"
    return "y" if answer else "n"
