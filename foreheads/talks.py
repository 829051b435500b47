"""Talks: rows that are done one after another, in blocks perhaps, and their texts."""

from foreheads.checks import is_integer, is_sequence
from foreheads.errors import InvalidTalk, InvalidText, NoRow
from foreheads.runs import heard
from foreheads.sayings import Saying, strings_of
from foreheads.sayingtexts import read_saying


class Row:
    """The base class. Each row has a HEAD, which begins its text and tells what it is; a `span`, the number of rows in
    it with itself; and methods `pieces`, the strings and rows that make up its lines, and `inner`, the rows in it."""

    def __init__(self):
        raise TypeError("only its subclasses are made")

    def inner(self):
        return ()

    def __eq__(self, other):
        return _are_alike(self, other)

    def __str__(self):
        return "\n".join(strings_of(self))


class Say(Row):
    """It is said that the saying holds."""

    HEAD = "say"

    def __init__(self, saying):
        _check_saying(saying)
        self.saying = saying
        self.span = 1

    def pieces(self):
        return [f"say {self.saying}"]

    def __eq__(self, other):
        return _are_alike(self, other)

    def __str__(self):
        return "\n".join(strings_of(self))


class Ask(Row):
    """All hear whether the saying holds."""

    HEAD = "ask"

    def __init__(self, saying):
        _check_saying(saying)
        self.saying = saying
        self.span = 1

    def pieces(self):
        return [f"ask {self.saying}"]

    def __eq__(self, other):
        return _are_alike(self, other)

    def __str__(self):
        return "\n".join(strings_of(self))


class Hands(Row):
    """All who know that the saying holds lift a hand, at once."""

    HEAD = "hands"

    def __init__(self, saying):
        _check_saying(saying)
        self.saying = saying
        self.span = 1

    def pieces(self):
        return [f"hands {self.saying}"]

    def __eq__(self, other):
        return _are_alike(self, other)

    def __str__(self):
        return "\n".join(strings_of(self))


class Step(Row):
    """All who know their own mark step forward, at once."""

    HEAD = "step"

    def __init__(self):
        self.span = 1

    def pieces(self):
        return ["step"]

    def __eq__(self, other):
        return _are_alike(self, other)

    def __str__(self):
        return "\n".join(strings_of(self))


class If(Row):
    """All hear whether the saying holds; the rows are done if it does, else the others."""

    HEAD = "if"

    def __init__(self, saying, rows, others=()):
        _check_saying(saying)
        _check_rows(rows)
        _check_rows(others)
        self.saying = saying
        self.rows = tuple(rows)
        self.others = tuple(others)
        self.span = 1 + sum([row.span for row in self.inner()])

    def inner(self):
        return self.rows + self.others

    def pieces(self):
        others = ["else", *self.others] if self.others else []
        return [f"if {self.saying}", *self.rows, *others, "end"]

    def __eq__(self, other):
        return _are_alike(self, other)

    def __str__(self):
        return "\n".join(strings_of(self))


class Times(Row):
    """The rows are done so many times."""

    HEAD = "times"

    def __init__(self, many, rows):
        if not is_integer(many) or not 1 <= many <= 9:
            raise InvalidTalk("many")
        _check_rows(rows)
        self.many = many
        self.rows = tuple(rows)
        self.span = 1 + sum([row.span for row in self.inner()])

    def inner(self):
        return self.rows

    def pieces(self):
        return [f"times {self.many}", *self.rows, "end"]

    def __eq__(self, other):
        return _are_alike(self, other)

    def __str__(self):
        return "\n".join(strings_of(self))


class Talk:
    """Rows that are done one after another."""

    def __init__(self, rows=()):
        _check_rows(rows)
        self.rows = tuple(rows)

    @classmethod
    def read(cls, text):
        """The talk with a text; InvalidText with the number of the first line with which none goes on."""
        return cls(_read_rows(text))

    def without(self, at):
        """The talk without the row with a number."""
        if not 0 <= at < len(self):
            raise NoRow(at)
        return Talk(_rows_without(self.rows, at))

    def __call__(self, crowd):
        return heard(self, crowd)

    def __len__(self):
        return len(_numbered(self.rows))

    def __getitem__(self, at):
        rows = _numbered(self.rows)
        if not 0 <= at < len(rows):
            raise NoRow(at)
        return rows[at]

    def __iter__(self):
        raise TypeError("a talk is not iterated over; its rows are in `rows`")

    def __add__(self, other):
        if not isinstance(other, Talk):
            return NotImplemented
        return Talk(self.rows + other.rows)

    def __mul__(self, other):
        if not is_integer(other):
            return NotImplemented
        return Talk(self.rows * other)

    def __rmul__(self, other):
        if not is_integer(other):
            return NotImplemented
        return Talk(self.rows * other)

    def __eq__(self, other):
        return isinstance(other, Talk) and str(self) == str(other)

    def __str__(self):
        return "\n".join([str(row) for row in self.rows])


class Block:
    """What is read of a block: its head, the saying or number behind it, the rows and, behind `else`, the others."""

    def __init__(self, head, argument):
        self.head = head
        self.argument = argument
        self.rows = []
        self.others = None

    def put(self, row):
        """Puts a row behind those that are there."""
        if self.others is None:
            self.rows.append(row)
        else:
            self.others.append(row)

    def can_turn(self):
        """Whether `else` may stand here."""
        return self.head == "if" and self.others is None

    def can_end(self):
        """Whether `end` may stand here: the talk itself has none, and behind `else` a row stands."""
        return self.head != "" and self.others != []

    def row(self):
        """The row that the block is."""
        if self.head == "times":
            return Times(self.argument, self.rows)
        return If(self.argument, self.rows, self.others or [])


def _read_rows(text):
    """The rows whose lines make up a text."""
    lines = text.split("\n") if text else []
    opened = [Block("", None)]
    for at, line in enumerate(lines):
        _read_line(opened, line, at)
    if len(opened) > 1:
        raise InvalidText(len(lines))
    return opened[0].rows


def _read_line(opened, line, at):
    """Reads the line with a number, within the blocks that are open, the innermost one last."""
    block = opened[-1]
    head, _, argument = line.partition(" ")
    if line == "else" and block.can_turn():
        block.others = []
    elif line == "end" and block.can_end():
        opened.pop()
        opened[-1].put(block.row())
    elif line == "step":
        block.put(Step())
    elif head == "times":
        opened.append(Block(head, _many_of(argument, at)))
    elif head == "if":
        opened.append(Block(head, _saying_of(argument, at)))
    elif head == "say":
        block.put(Say(_saying_of(argument, at)))
    elif head == "ask":
        block.put(Ask(_saying_of(argument, at)))
    elif head == "hands":
        block.put(Hands(_saying_of(argument, at)))
    else:
        raise InvalidText(at)


def _many_of(text, at):
    """The number behind `times`, in the line with a number."""
    if len(text) != 1 or text not in "123456789":
        raise InvalidText(at)
    return int(text)


def _saying_of(text, at):
    """The saying that makes up the rest of the line with a number."""
    try:
        return read_saying(text)
    except InvalidText:
        raise InvalidText(at) from None


def _check_saying(saying):
    if not isinstance(saying, Saying):
        raise InvalidTalk("saying")


def _check_rows(rows):
    if not is_sequence(rows) or not all([isinstance(row, Row) for row in rows]):
        raise InvalidTalk("rows")


def _are_alike(row, other):
    """Whether any value is a row with the same text."""
    return isinstance(other, Row) and str(row) == str(other)


def _numbered(rows):
    """These rows and those in them, in the order of their numbers."""
    found = []
    waiting = list(rows[::-1])
    while waiting:
        row = waiting.pop()
        found.append(row)
        waiting.extend(row.inner()[::-1])
    return found


def _rows_without(rows, at):
    """The rows without the one, of these and of those in them, with a number (none if it is no number of a row)."""
    kept = []
    for row in rows:
        if 0 < at < row.span:
            kept.append(_row_without(row, at))
        elif at != 0:
            kept.append(row)
        at = at - row.span
    return kept


def _row_without(row, at):
    """An `If` or a `Times` without the row in it with a number, counted from the block on."""
    rows = _rows_without(row.rows, at - 1)
    if isinstance(row, Times):
        return Times(row.many, rows)
    return If(row.saying, rows, _rows_without(row.others, at - 1 - len(_numbered(row.rows))))
