"""Programs, and programs that are made of programs."""

from turnsneeded.errors import BadProgram, NoLot, NoMatrix, NoNames, NoNumber, NoReading, OtherSides
from turnsneeded.judging import is_int_in, is_lot, is_row_of_ints

MOST_SIDES = 4
MOST_TABLES = 8
MOST_READINGS = 24
LONGEST_STEP = 10 ** 12
MOST_TIMES = 10 ** 12


class Program:
    """Tables that are told by readings, each a triple (reader, read, step)."""

    def __init__(self, sides, tables, readings):
        if not is_int_in(sides, 1, MOST_SIDES):
            raise BadProgram("sides")
        if not is_int_in(tables, 1, MOST_TABLES):
            raise BadProgram("tables")
        if not isinstance(readings, tuple) or len(readings) > MOST_READINGS:
            raise BadProgram("readings")
        for k, reading in enumerate(readings):
            if not is_reading(sides, tables, reading):
                raise BadProgram(k)
            if k > 0 and reading <= readings[k - 1]:
                raise BadProgram(k)
        self.sides = sides
        self.tables = tables
        self.readings = readings

    def __eq__(self, other):
        return (isinstance(other, Program) and self.sides == other.sides
                and self.tables == other.tables and self.readings == other.readings)


def is_reading(sides, tables, thing):
    """Whether a thing that is passed is a reading; those of programs that were returned may have longer steps."""
    return (isinstance(thing, tuple) and len(thing) == 3
            and is_int_in(thing[0], 0, tables - 1) and is_int_in(thing[1], 0, tables - 1)
            and is_row_of_ints(thing[2], sides)
            and all([-LONGEST_STEP <= part <= LONGEST_STEP for part in thing[2]]))


def program_of(sides, tables, readings):
    """The program of a list of unlike readings, in whatever order and of whatever size."""
    # Sizes are bounded only where a caller constructs a program, so this goes round the check.
    program = Program(sides, 1, ())
    program.tables = tables
    program.readings = tuple(sorted(readings))
    return program


def copy_of(program):
    """A program of its own that is equal to another."""
    return program_of(program.sides, program.tables, program.readings)


def renamed(program, names):
    """The program whose table k is called names[k]."""
    if not is_row_of_ints(names, program.tables) or sorted(names) != list(range(program.tables)):
        raise NoNames()
    readings = [(names[reader], names[read], step) for reader, read, step in program.readings]
    return program_of(program.sides, program.tables, readings)


def backward(program):
    """The program in which each reading goes the other way."""
    readings = [(read, reader, tuple([-part for part in step])) for reader, read, step in program.readings]
    return program_of(program.sides, program.tables, readings)


def determinant(rows):
    """The determinant of a square matrix, along its first row."""
    if len(rows) == 0:
        return 1
    total = 0
    sign = 1
    for k, first in enumerate(rows[0]):
        rest = [row[:k] + row[k + 1:] for row in rows[1:]]
        total = total + sign * first * determinant(rest)
        sign = -sign
    return total


def is_matrix(sides, thing):
    """Whether a thing is a matrix that turns steps and can be turned back."""
    if not isinstance(thing, tuple) or len(thing) != sides:
        return False
    return all([is_row_of_ints(row, sides) for row in thing]) and determinant(thing) in (1, -1)


def times_step(matrix, step):
    """A matrix times a step."""
    return tuple([sum([row[k] * step[k] for k in range(len(step))]) for row in matrix])


def turned(program, matrix):
    """The program whose steps are told as the matrix times them."""
    if not is_matrix(program.sides, matrix):
        raise NoMatrix()
    readings = [(reader, read, times_step(matrix, step)) for reader, read, step in program.readings]
    return program_of(program.sides, program.tables, readings)


def stretched(program, times):
    """The program whose steps are so many times as long."""
    if not is_int_in(times, 1, MOST_TIMES):
        raise NoNumber()
    readings = [(reader, read, tuple([part * times for part in step])) for reader, read, step in program.readings]
    return program_of(program.sides, program.tables, readings)


def beside(one, other):
    """The program of the tables of one, then those of other, with the readings of both."""
    if one.sides != other.sides:
        raise OtherSides()
    moved = [(one.tables + reader, one.tables + read, step) for reader, read, step in other.readings]
    return program_of(one.sides, one.tables + other.tables, list(one.readings) + moved)


def without(program, lot):
    """The program without the readings of a lot."""
    if not is_lot(lot, len(program.readings)):
        raise NoLot()
    readings = [reading for k, reading in enumerate(program.readings) if k not in lot]
    return program_of(program.sides, program.tables, readings)


def alone(program, lot):
    """The program with just the readings of a lot."""
    if not is_lot(lot, len(program.readings)):
        raise NoLot()
    return program_of(program.sides, program.tables, [program.readings[k] for k in lot])


def also(program, reading):
    """The program with one reading more, whether it was there or not."""
    if not is_reading(program.sides, program.tables, reading):
        raise NoReading()
    others = [known for known in program.readings if known != reading]
    return program_of(program.sides, program.tables, others + [reading])
