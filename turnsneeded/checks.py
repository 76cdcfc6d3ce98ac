"""Checks that several files make; each raises the error of its kind for what is not right."""

from turnsneeded.errors import NoBox, NoPoint, NoTable, NoWorld, TooMany
from turnsneeded.judging import is_box, is_int_in, is_row_of_ints, is_world

MOST_PAIRS = 5000


def check_world(thing):
    """Raises NoWorld for what is none of both words."""
    if not is_world(thing):
        raise NoWorld()


def check_table(program, thing):
    """Raises NoTable for what is no table."""
    if not is_int_in(thing, 0, program.tables - 1):
        raise NoTable()


def check_place(program, table, point):
    """Raises NoTable or NoPoint for what is no table at a point, wherever it lies."""
    check_table(program, table)
    if not is_row_of_ints(point, program.sides):
        raise NoPoint()


def check_box(program, thing):
    """Raises NoBox for what is no box."""
    if not is_box(thing, program.sides):
        raise NoBox()


def check_size(program, box):
    """Raises TooMany for a right box with more pairs than are gone through."""
    many = program.tables
    for size in box:
        many = many * size
    if many > MOST_PAIRS:
        raise TooMany(MOST_PAIRS)
