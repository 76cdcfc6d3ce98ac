"""Which readings must go for a program to work, or to be less deep."""

from itertools import combinations

from turnsneeded.checks import check_world
from turnsneeded.errors import NoNumber, TooMany
from turnsneeded.judging import is_int_in
from turnsneeded.levels import depths, works
from turnsneeded.programs import without

MOST_TRIED = 10
GREATEST_DEPTH = 4


def breakers(program, world):
    """The ascending list of the least lots without which the program works."""
    check_world(world)
    return least_lots(program, lambda rest: works(rest, world))


def shallower(program, most):
    """The ascending list of the least lots without which it works for boxes with no depth above most."""
    if not is_int_in(most, 0, GREATEST_DEPTH):
        raise NoNumber()
    return least_lots(program, lambda rest: is_shallow(rest, most))


def is_shallow(program, most):
    """Whether a program works for boxes with no depth above most."""
    told = depths(program, "boxes")
    return told is not None and max(told) <= most


def least_lots(program, is_right):
    """The ascending list of the lots without which the program is right, but without no part of which it is."""
    many = len(program.readings)
    if many > MOST_TRIED:
        raise TooMany(MOST_TRIED)
    found = []
    for size in range(many + 1):
        for lot in combinations(range(many), size):
            if not any([is_part(known, lot) for known in found]) and is_right(without(program, lot)):
                found.append(lot)
    return sorted(found)


def is_part(lot, other):
    """Whether all numbers of a lot are in another."""
    return all([number in other for number in lot])
