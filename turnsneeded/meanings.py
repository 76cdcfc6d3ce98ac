"""Meanings: how the value of a table at a point is made of those that it reads."""

from turnsneeded.errors import NoMeaning, NoModulus
from turnsneeded.judging import is_int_in

WORDS = ("sum", "product", "least", "greatest", "less")
LEAST_MODULUS = 2
GREATEST_MODULUS = 10 ** 12


def is_way(thing, modulus):
    """Whether a thing is a pair of a word and a number from 0 below the modulus."""
    return (isinstance(thing, tuple) and len(thing) == 2 and isinstance(thing[0], str) and thing[0] in WORDS
            and is_value(thing[1], modulus))


def is_value(thing, modulus):
    """Whether a thing is an integer from 0 below the modulus."""
    return is_int_in(thing, 0, modulus - 1)


def check_way(thing, modulus):
    """Raises NoMeaning for what is no pair of a word and a number."""
    if not is_way(thing, modulus):
        raise NoMeaning()


def check_meaning(program, meaning, modulus):
    """Raises NoModulus or NoMeaning for what is none."""
    if not is_int_in(modulus, LEAST_MODULUS, GREATEST_MODULUS):
        raise NoModulus()
    if not isinstance(meaning, tuple) or len(meaning) != program.tables:
        raise NoMeaning()
    for way in meaning:
        check_way(way, modulus)


def value_of(way, modulus, values):
    """The value that is made of the number of a pair of word and number and of the values read."""
    word, number = way
    if word == "sum":
        return (number + sum(values)) % modulus
    if word == "less":
        return (number - sum(values)) % modulus
    if word == "least":
        return min([number] + values)
    if word == "greatest":
        return max([number] + values)
    made = number
    for value in values:
        made = made * value % modulus
    return made
