"""Rooms: a told crowd in which rows are done one after another, and can be taken back."""

from foreheads.checks import is_crowd
from foreheads.errors import InvalidLine, InvalidTalk, KnowError, Refused
from foreheads.lines import Line
from foreheads.runs import heard_on
from foreheads.talks import Row, Talk


class Room:
    """A crowd, the rows that were done in it, and how its line stood ahead of all rows and behind each."""

    def __init__(self, crowd):
        if not is_crowd(crowd):
            raise InvalidLine("crowd")
        self.crowd = crowd
        self.done = ()
        self.stood = (Line(crowd[0] + crowd[1]),)

    @property
    def talk(self):
        """The talk of all rows done so far."""
        return Talk(self.done)

    @property
    def line(self):
        """The line as it stands now."""
        return self.stood[-1]

    def do(self, row):
        """Does a row, and returns what is heard by it."""
        if not isinstance(row, Row):
            raise InvalidTalk("rows")
        found = heard_on(self.line, (row,), self.crowd)
        self.stood = (*self.stood, self.line.after(Talk([row])))
        self.done = (*self.done, row)
        return found

    def holds(self, saying):
        """Whether a saying holds now."""
        return self.crowd[0] in self.line.where(saying)

    def __iadd__(self, other):
        self.do(other)
        return self

    def __len__(self):
        return len(self.done)

    def undo(self):
        """Takes the last row back; whether there was one."""
        if not self.done:
            return False
        self.done = self.done[:-1]
        self.stood = self.stood[:-1]
        return True

    def trial(self):
        """A context manager, behind which the room is as it was ahead of it."""
        return Trial(self)

    def within(self, work):
        """What some work returns that is called with the room; behind it the room is as it was."""
        with self.trial() as room:
            return work(room)

    def several(self, rows):
        """Does rows one after another, or none of them, and returns what is heard by each."""
        done = self.done
        stood = self.stood
        found = []
        for at, row in enumerate(rows):
            try:
                found.append(self.do(row))
            except KnowError as error:
                self.done = done
                self.stood = stood
                raise Refused(at) from error
        return tuple(found)


class Trial:
    """A context manager that remembers a room when it is entered, and makes it so again when it is left."""

    def __init__(self, room):
        self.room = room
        self.done = room.done
        self.stood = room.stood

    def __enter__(self):
        self.done = self.room.done
        self.stood = self.room.stood
        return self.room

    def __exit__(self, kind, value, trace):
        room = self.room
        room.done = self.done
        room.stood = self.stood
