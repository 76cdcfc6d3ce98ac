"""All errors that the package raises.

Each class derives directly from TurnError and keeps what it was made with, as
it was passed, in the fields that its own __init__ assigns.
"""


class TurnError(ValueError):
    """Something that was passed to the package is not as it must be."""

    def __init__(self):
        ValueError.__init__(self)


class BadProgram(TurnError):
    """The sides, the tables, the readings or one reading of a program are not right."""

    def __init__(self, part):
        self.part = part


class NoNames(TurnError):
    """The names are no tuple of all tables, each once."""


class NoMatrix(TurnError):
    """The matrix is no tuple of rows of integers whose determinant is 1 or -1."""


class NoNumber(TurnError):
    """The number is no integer, or none within its bounds."""


class OtherSides(TurnError):
    """Two programs have not the same number of sides."""


class NoLot(TurnError):
    """The lot is no ascending tuple of numbers of readings."""


class NoReading(TurnError):
    """The reading is none of the program's sides and tables."""


class BadText(TurnError):
    """A line of a text, counted from 1, is not written as it must be; 0 for no text at all."""

    def __init__(self, line):
        self.line = line


class NoLog(TurnError):
    """The log is none of the program."""


class NoTable(TurnError):
    """The table is none of the program."""


class TooMany(TurnError):
    """There is more to work on than so many."""

    def __init__(self, most):
        self.most = most


class NoWorld(TurnError):
    """The world is neither boxes nor corner."""


class BadTask(TurnError):
    """The worths, the rows or the amounts of a task are not right."""

    def __init__(self, part):
        self.part = part


class NoTimetable(TurnError):
    """The timetable is none of the program."""


class NoPoint(TurnError):
    """The point is none, or none of the box."""


class NoBox(TurnError):
    """The box is no tuple of an integer from 1 on for each side."""


class NotWorking(TurnError):
    """The program does not work: some point waits for itself."""


class NoModulus(TurnError):
    """The modulus is no integer within its bounds."""


class NoMeaning(TurnError):
    """The meaning is no right pair of word and number, or no tuple of one for each table."""


class BadBorder(TurnError):
    """The border tells no right value of a table at a point."""

    def __init__(self, table, point):
        self.table = table
        self.point = point


class BadDone(TurnError):
    """What stands at an index of the things done is not right; -1 for no list or tuple."""

    def __init__(self, index):
        self.index = index


class BadPick(TurnError):
    """What was picked at an index was not ready."""

    def __init__(self, index):
        self.index = index


class Full(TurnError):
    """There would be more readings than there may be."""


class NotThere(TurnError):
    """The reading is not there."""


class NothingDone(TurnError):
    """There is nothing to take back."""


class NoLine(TurnError):
    """The line has none of the forms that the desk knows."""


class NoName(TurnError):
    """Nothing is kept under a name."""

    def __init__(self, name):
        self.name = name


class NotRead(TurnError):
    """The pair is neither read from within the box nor in it, where it must be."""


class NotInside(TurnError):
    """The pair is none of the box."""


class NotFixed(TurnError):
    """The pair is not fixed."""
