"""One reading more or less, as benches and sheets change the program that they lead."""

from turnsneeded.errors import Full, NoReading, NotThere
from turnsneeded.programs import MOST_READINGS, also, is_reading, without


def with_reading(program, reading):
    """The program with one reading more, also one that is there: NoReading, Full."""
    more = also(program, reading)
    if len(more.readings) > MOST_READINGS:
        raise Full()
    return more


def without_reading(program, reading):
    """The program without a reading: NoReading, NotThere."""
    if not is_reading(program.sides, program.tables, reading):
        raise NoReading()
    if reading not in program.readings:
        raise NotThere()
    return without(program, (program.readings.index(reading),))
