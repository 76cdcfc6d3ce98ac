"""Timetables: what shows that no point waits for itself, and what it tells."""

from turnsneeded.checks import check_box, check_place, check_table, check_world
from turnsneeded.errors import NoReading, NoTimetable
from turnsneeded.flows import is_side_row, row
from turnsneeded.judging import is_int, is_int_in
from turnsneeded.levels import levels, reached, tables_of, turning_part
from turnsneeded.ratios import weighed

MOST_ROWS = 8


def timetable(program, world):
    """A timetable with as few rows as can be, None if the program does not work."""
    told = levels(program, world)
    if turning_part(told) is not None:
        return None
    rows = [[] for _ in range(program.tables)]
    add_rows(program, world, told, rows)
    # Who reads another that does not wait for it in turn reaches more tables than that one.
    numbers = [len(there) for there in reached(program, tuple(range(len(program.readings))))]
    return tuple([(number, tuple(pairs)) for number, pairs in zip(numbers, rows)])


def add_rows(program, world, told, rows):
    """Adds a pair for each part of levels to the rows of the tables that it has."""
    for part, inner in told:
        sides, numbers = row(program, part, world)
        for table in tables_of(program, part):
            rows[table].append((sides, numbers[table]))
        add_rows(program, world, inner, rows)


def later_by(times, reading):
    """The pair of the place by which a reading is later and by how much, place 0 for the numbers; None if it is not."""
    reader, read, step = reading
    number, rows = times[reader]
    other, others = times[read]
    if number != other:
        return (0, number - other) if number > other else None
    place = 0
    for (one, add), (two, less) in zip(rows, others):
        place += 1
        ahead = weighed(one, step) + add - less
        if one != two or ahead < 0:
            return None
        if ahead > 0:
            return place, ahead
    return None


def is_timetable(program, world, thing):
    """Whether a thing is a timetable."""
    check_world(world)
    if not isinstance(thing, tuple) or len(thing) != program.tables:
        return False
    if not all([is_table_time(program, world, part) for part in thing]):
        return False
    return all([later_by(thing, reading) is not None for reading in program.readings])


def is_table_time(program, world, thing):
    """Whether a thing has the form of what a timetable has for a table."""
    if not isinstance(thing, tuple) or len(thing) != 2 or not is_int(thing[0]):
        return False
    if not isinstance(thing[1], tuple) or len(thing[1]) > MOST_ROWS:
        return False
    return all([is_row_pair(program, world, part) for part in thing[1]])


def is_row_pair(program, world, thing):
    """Whether a thing is a pair of a row and an integer."""
    return (isinstance(thing, tuple) and len(thing) == 2
            and is_side_row(program, world, thing[0]) and is_int(thing[1]))


def check_timetable(program, thing):
    """Raises NoTimetable for what is none for boxes."""
    if not is_timetable(program, "boxes", thing):
        raise NoTimetable()


def time_at(program, timetable, table, point):
    """The time of a table at a point."""
    check_timetable(program, timetable)
    check_place(program, table, point)
    number, rows = timetable[table]
    return tuple([number] + [weighed(sides, point) + add for sides, add in rows])


def lag(program, timetable, number):
    """The pair of the place by which a reading is later and by how much."""
    check_timetable(program, timetable)
    if not is_int_in(number, 0, len(program.readings) - 1):
        raise NoReading()
    return later_by(timetable, program.readings[number])


def spread(program, timetable, table, box):
    """How many unlike times a table has in a box at most."""
    check_timetable(program, timetable)
    check_table(program, table)
    check_box(program, box)
    many = 1
    for sides, _ in timetable[table][1]:
        many = many * (1 + sum([abs(part) * (size - 1) for part, size in zip(sides, box)]))
    return many
