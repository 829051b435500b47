"""Runs: what is heard and seen when a talk is held in one crowd."""

from foreheads.errors import Untrue
from foreheads.lines import Line
from foreheads.sayings import Knows, Sure


def heard(talk, crowd):
    """What is heard and seen in a crowd: pairs of the number of a row and the answer to it."""
    return heard_on(Line(crowd[0] + crowd[1]), talk.rows, crowd)


def heard_on(line, rows, crowd):
    """What is heard and seen of rows in a crowd, if its line stands so ahead of them."""
    run = Run(line, crowd)
    run.do_rows(rows, 0)
    return tuple(run.answers)


def holds(talk, crowd, saying):
    """Whether a saying holds in a crowd behind the talk."""
    run = Run(Line(crowd[0] + crowd[1]), crowd)
    run.do_rows(talk.rows, 0)
    return run.is_true(saying)


class Run:
    """A talk that is held in one crowd: the answers so far, and how things stand as far as they matter there."""

    def __init__(self, line, crowd):
        self.marked, self.plain = crowd
        self.standing = line.in_bits()
        self.answers = []

    def is_true(self, saying):
        """Whether a saying holds in the crowd, as things stand."""
        return bool(self.standing.where(saying) >> self.marked & 1)

    def do_rows(self, rows, at):
        """Does rows, the first of which has a number."""
        for row in rows:
            self.do_row(row, at)
            at = at + row.span

    def do_row(self, row, at):
        """Does the row with a number."""
        if row.HEAD == "times":
            for _ in range(row.many):
                self.do_rows(row.rows, at + 1)
            return
        answer = self.answer_to(row)
        if row.HEAD == "say" and not answer:
            raise Untrue(at)
        self.answers.append((at, answer))
        if row.HEAD == "if":
            self.do_part(row, at, answer)
        else:
            self.standing = self.standing.after_row(row)

    def do_part(self, row, at, answer):
        """Does the rows or the others of an `If`, whose number and answer are told."""
        held = self.standing.where(row.saying)
        # The other crowds go their own way, and no open edge leads there any more.
        if answer:
            self.standing = self.standing.part(held)
            self.do_rows(row.rows, at + 1)
        else:
            self.standing = self.standing.part(self.standing.all_but(held))
            self.do_rows(row.others, at + 1 + sum([part.span for part in row.rows]))

    def answer_to(self, row):
        """What is heard or seen of a row, ahead of which things stand as they do."""
        if row.HEAD == "hands":
            return self.by_kind(Knows("marked", row.saying), Knows("plain", row.saying))
        if row.HEAD == "step":
            return self.by_kind(Sure("marked"), Sure("plain"))
        return self.is_true(row.saying)

    def by_kind(self, marked, plain):
        """Whether the sayings about the marked and the plain people hold; None for a kind of which there is nobody."""
        return (self.is_true(marked) if self.marked > 0 else None,
                self.is_true(plain) if self.plain > 0 else None)
