"""Sayings: what holds in a crowd or does not, about the crowd or about what people know."""

from foreheads.checks import is_kind, is_number
from foreheads.crowds import Crowds
from foreheads.errors import InvalidSaying

# The signs, `==` and `str` stand in each class itself, as the interface lists them for each, not for Saying alone.


class Saying:
    """The base class; each saying has methods `pieces`: the strings and sayings that make up its text, and `inner`: the
    sayings of which it is made."""

    def __init__(self):
        raise TypeError("only its subclasses are made")

    def inner(self):
        return ()

    def __and__(self, other):
        return Pair("&", self, other)

    def __or__(self, other):
        return Pair("|", self, other)

    def __xor__(self, other):
        return Pair("^", self, other)

    def __sub__(self, other):
        return Pair("-", self, other)

    def __invert__(self):
        return Not(self)

    def __eq__(self, other):
        return _are_alike(self, other)

    def __str__(self):
        return "".join(strings_of(self))


class AtLeast(Saying):
    """There are at least so many people of the kind."""

    def __init__(self, kind, number):
        _check_kind(kind)
        if not is_number(number):
            raise InvalidSaying("number")
        self.kind = kind
        self.number = number
        self.depth = 0
        self.commons = 0

    def pieces(self):
        return [f"{self.kind} >= {self.number}"]

    def __and__(self, other):
        return Pair("&", self, other)

    def __or__(self, other):
        return Pair("|", self, other)

    def __xor__(self, other):
        return Pair("^", self, other)

    def __sub__(self, other):
        return Pair("-", self, other)

    def __invert__(self):
        return Not(self)

    def __eq__(self, other):
        return _are_alike(self, other)

    def __str__(self):
        return "".join(strings_of(self))


class Rest(Saying):
    """The number of people of the kind leaves the rest when divided by the period."""

    def __init__(self, kind, rest, period):
        _check_kind(kind)
        # The rest can be looked at only beside a good period.
        if not is_number(period) or period == 0:
            raise InvalidSaying("period")
        if not is_number(rest) or rest >= period:
            raise InvalidSaying("rest")
        self.kind = kind
        self.rest = rest
        self.period = period
        self.depth = 0
        self.commons = 0

    def pieces(self):
        return [f"{self.kind} by {self.period} leaves {self.rest}"]

    def __and__(self, other):
        return Pair("&", self, other)

    def __or__(self, other):
        return Pair("|", self, other)

    def __xor__(self, other):
        return Pair("^", self, other)

    def __sub__(self, other):
        return Pair("-", self, other)

    def __invert__(self):
        return Not(self)

    def __eq__(self, other):
        return _are_alike(self, other)

    def __str__(self):
        return "".join(strings_of(self))


class Fact(Saying):
    """The crowd is in the set."""

    def __init__(self, crowds):
        if not isinstance(crowds, Crowds):
            raise InvalidSaying("crowds")
        self.crowds = crowds
        self.depth = 0
        self.commons = 0

    def pieces(self):
        return [str(self.crowds)]

    def __and__(self, other):
        return Pair("&", self, other)

    def __or__(self, other):
        return Pair("|", self, other)

    def __xor__(self, other):
        return Pair("^", self, other)

    def __sub__(self, other):
        return Pair("-", self, other)

    def __invert__(self):
        return Not(self)

    def __eq__(self, other):
        return _are_alike(self, other)

    def __str__(self):
        return "".join(strings_of(self))


class Sure(Saying):
    """Each person of the kind knows their own mark."""

    def __init__(self, kind):
        _check_kind(kind)
        self.kind = kind
        self.depth = 1
        self.commons = 0

    def pieces(self):
        return [f"sure {self.kind}"]

    def __and__(self, other):
        return Pair("&", self, other)

    def __or__(self, other):
        return Pair("|", self, other)

    def __xor__(self, other):
        return Pair("^", self, other)

    def __sub__(self, other):
        return Pair("-", self, other)

    def __invert__(self):
        return Not(self)

    def __eq__(self, other):
        return _are_alike(self, other)

    def __str__(self):
        return "".join(strings_of(self))


class Silent(Saying):
    """Nobody knows their own mark."""

    def __init__(self):
        self.depth = 1
        self.commons = 0

    def pieces(self):
        return ["silent"]

    def __and__(self, other):
        return Pair("&", self, other)

    def __or__(self, other):
        return Pair("|", self, other)

    def __xor__(self, other):
        return Pair("^", self, other)

    def __sub__(self, other):
        return Pair("-", self, other)

    def __invert__(self):
        return Not(self)

    def __eq__(self, other):
        return _are_alike(self, other)

    def __str__(self):
        return "".join(strings_of(self))


class Knows(Saying):
    """Each person of the kind knows that the saying holds."""

    def __init__(self, kind, saying):
        _check_kind(kind)
        _check_saying(saying)
        self.kind = kind
        self.saying = saying
        self.depth = saying.depth + 1
        self.commons = saying.commons

    def pieces(self):
        return [f"knows {self.kind} (", self.saying, ")"]

    def inner(self):
        return (self.saying,)

    def __and__(self, other):
        return Pair("&", self, other)

    def __or__(self, other):
        return Pair("|", self, other)

    def __xor__(self, other):
        return Pair("^", self, other)

    def __sub__(self, other):
        return Pair("-", self, other)

    def __invert__(self):
        return Not(self)

    def __eq__(self, other):
        return _are_alike(self, other)

    def __str__(self):
        return "".join(strings_of(self))


class Common(Saying):
    """It is common knowledge that the saying holds."""

    def __init__(self, saying):
        _check_saying(saying)
        self.saying = saying
        self.depth = saying.depth + 1
        self.commons = saying.commons + 1

    def pieces(self):
        return ["common (", self.saying, ")"]

    def inner(self):
        return (self.saying,)

    def __and__(self, other):
        return Pair("&", self, other)

    def __or__(self, other):
        return Pair("|", self, other)

    def __xor__(self, other):
        return Pair("^", self, other)

    def __sub__(self, other):
        return Pair("-", self, other)

    def __invert__(self):
        return Not(self)

    def __eq__(self, other):
        return _are_alike(self, other)

    def __str__(self):
        return "".join(strings_of(self))


class Not(Saying):
    """The saying does not hold."""

    def __init__(self, saying):
        self.saying = saying
        self.depth = saying.depth
        self.commons = saying.commons

    def pieces(self):
        return ["~(", self.saying, ")"]

    def inner(self):
        return (self.saying,)


class Pair(Saying):
    """Two sayings joined by one of the signs `&`, `|`, `^` and `-`."""

    def __init__(self, sign, first, second):
        if not isinstance(second, Saying):
            raise TypeError("a sign stands between two sayings")
        self.sign = sign
        self.first = first
        self.second = second
        self.depth = max(int(first.depth), int(second.depth))
        self.commons = first.commons + second.commons

    def pieces(self):
        return ["(", self.first, f") {self.sign} (", self.second, ")"]

    def inner(self):
        return (self.first, self.second)


def everybody(saying):
    """That everybody knows that the saying holds."""
    return Knows("marked", saying) & Knows("plain", saying)


def somebody(saying):
    """That somebody knows that the saying holds."""
    marked = AtLeast("marked", 1) & Knows("marked", saying)
    plain = AtLeast("plain", 1) & Knows("plain", saying)
    return marked | plain


def _check_kind(kind):
    if not is_kind(kind):
        raise InvalidSaying("kind")


def _check_saying(saying):
    if not isinstance(saying, Saying):
        raise InvalidSaying("saying")


def _are_alike(saying, other):
    """Whether any value is a saying with the same text."""
    return isinstance(other, Saying) and str(saying) == str(other)


def strings_of(saying):
    """The strings that make up the text of a saying, in their order."""
    found = []
    # A stack of its own, as sayings may be nested deeper than calls can be.
    waiting = [saying]
    while waiting:
        piece = waiting.pop()
        if isinstance(piece, str):
            found.append(piece)
        else:
            waiting.extend(piece.pieces()[::-1])
    return found
