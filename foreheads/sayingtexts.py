"""Sayings, read from their texts."""

from foreheads.crowds import Crowds
from foreheads.errors import InvalidText
from foreheads.sayings import AtLeast, Common, Fact, Knows, Not, Pair, Rest, Silent, Sure

# In each of these tuples no string begins with another one, so at most one of them can stand at a place.
HEADS = ("marked >= ", "plain >= ", "marked by ", "plain by ", "[", "sure marked", "sure plain", "silent",
         "knows marked (", "knows plain (", "common (", "~(", "(")
SIGNS = (") & (", ") | (", ") ^ (", ") - (")
# What the numbers of a table are at least, and what stands behind each.
NUMBERS = ((0, " "), (0, " "), (1, " "), (1, ":"))
MOST = 9999


def read_saying(text):
    """The saying with a text; InvalidText with the length of the longest beginning that some text has, too."""
    reader = Reader(text)
    saying = reader.take_saying()
    if reader.at < len(text):
        raise InvalidText(reader.at)
    return saying


class Reader:
    """A text that is taken piece by piece; `at` is the place behind what was taken."""

    def __init__(self, text):
        self.text = text
        self.at = 0

    def take_saying(self):
        """The saying that begins here."""
        head = self.take_one_of(HEADS)
        words = head.split()
        if head == "[":
            return self.take_fact()
        if head == "(":
            return self.take_pair()
        if head == "~(":
            return Not(self.take_inner())
        if head == "silent":
            return Silent()
        if words[0] == "sure":
            return Sure(words[1])
        if words[0] == "knows":
            return Knows(words[1], self.take_inner())
        if words[0] == "common":
            return Common(self.take_inner())
        if words[1] == ">=":
            return AtLeast(words[0], self.take_number(0, MOST))
        return self.take_rest(words[0])

    def take_inner(self):
        """The saying within a parenthesis that is open."""
        saying = self.take_saying()
        self.take_one_of((")",))
        return saying

    def take_pair(self):
        """Two sayings in parentheses, the first of which is open."""
        first = self.take_saying()
        sign = self.take_one_of(SIGNS)
        return Pair(sign[2], first, self.take_inner())

    def take_rest(self, kind):
        """The saying about a kind whose period begins here."""
        period = self.take_number(1, MOST)
        self.take_one_of((" leaves ",))
        return Rest(kind, self.take_number(0, period - 1), period)

    def take_fact(self):
        """The saying whose table begins here, behind its bracket."""
        numbers = []
        for lowest, behind in NUMBERS:
            numbers.append(self.take_number(lowest, MOST))
            self.take_one_of((behind,))
        rows = []
        for _ in range(numbers[0] + numbers[2]):
            self.take_one_of((" ",))
            rows.append(self.take_row(numbers[1] + numbers[3]))
        self.take_one_of(("]",))
        return Fact(Crowds(numbers[:2], numbers[2:], rows))

    def take_row(self, width):
        """So many signs of a table."""
        piece = self.text[self.at:self.at + width]
        many = len(piece) - len(piece.lstrip("+-"))
        self.at = self.at + many
        if many < width:
            raise InvalidText(self.at)
        return piece

    def take_number(self, lowest, highest):
        """The longest number within these bounds."""
        piece = self.text[self.at:self.at + len(str(MOST))]
        many = len(piece) - len(piece.lstrip("0123456789"))
        if piece.startswith("0"):
            many = 1
        # A number that is too great has a good beginning: the digit that makes it so is wrong.
        while many > 0 and int(piece[:many]) > highest:
            many = many - 1
        if many == 0 or int(piece[:many]) < lowest:
            raise InvalidText(self.at)
        self.at = self.at + many
        return int(piece[:many])

    def take_one_of(self, options):
        """The one of several strings that stands here."""
        for option in options:
            if self.text.startswith(option, self.at):
                self.at = self.at + len(option)
                return option
        rest = self.text[self.at:]
        raise InvalidText(self.at + max([int(_shared(option, rest)) for option in options]))


def _shared(one, other):
    """The length of the longest beginning that both strings have."""
    many = 0
    while many < len(one) and one[:many + 1] == other[:many + 1]:
        many = many + 1
    return many
