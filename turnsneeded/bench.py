"""A bench, which leads a program from change to change."""

from turnsneeded.changing import with_reading, without_reading
from turnsneeded.errors import NothingDone
from turnsneeded.levels import depths, works
from turnsneeded.programs import Program, copy_of, renamed
from turnsneeded.timetables import timetable
from turnsneeded.turns import turn


class Bench:
    """A program that is changed by and by, each change of which can be taken back."""

    def __init__(self, sides, tables):
        self.held = Program(sides, tables, ())
        self.past = []

    def _lead(self, program):
        self.past.append(self.held)
        self.held = program

    def add(self, reading):
        """One reading more, also one that is there."""
        self._lead(with_reading(self.held, reading))

    def drop(self, reading):
        """One reading goes."""
        self._lead(without_reading(self.held, reading))

    def called(self, names):
        """The tables are called anew."""
        self._lead(renamed(self.held, names))

    def program(self):
        """The program of now."""
        return copy_of(self.held)

    def works(self, world):
        """Whether no point waits for itself."""
        return works(self.held, world)

    def depths(self, world):
        """The depths of the tables, None if the program does not work."""
        return depths(self.held, world)

    def turn(self, world):
        """A turn, None if the program works."""
        return turn(self.held, world)

    def timetable(self, world):
        """A timetable, None if the program does not work."""
        return timetable(self.held, world)

    def back(self):
        """Takes back the last change that is not taken back."""
        if len(self.past) == 0:
            raise NothingDone()
        self.held = self.past.pop()

    def deeds(self):
        """How many changes can be taken back."""
        return len(self.past)

    def copy(self):
        """Another bench, which goes on apart."""
        other = Bench(self.held.sides, self.held.tables)
        other.held = self.held
        other.past = list(self.past)
        return other

    def trying(self, action):
        """What a function tells of the bench, after which all is put back."""
        held = self.held
        past = list(self.past)
        try:
            return action(self)
        finally:
            self.held, self.past = held, past
