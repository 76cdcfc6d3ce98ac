"""Judgements of single things, which may be objects of any kind."""

WORLDS = ("boxes", "corner")


def is_int(thing):
    """Whether a thing is an integer; a flag, which Python takes for one, is none."""
    return isinstance(thing, int) and not isinstance(thing, bool)


def is_int_in(thing, least, most):
    """Whether a thing is an integer from least to most."""
    return is_int(thing) and least <= thing <= most


def is_row_of_ints(thing, many):
    """Whether a thing is a tuple of so many integers."""
    return isinstance(thing, tuple) and len(thing) == many and all([is_int(part) for part in thing])


def is_lot(thing, many):
    """Whether a thing is a lot of numbers below many."""
    if not isinstance(thing, tuple):
        return False
    if not all([is_int_in(number, 0, many - 1) for number in thing]):
        return False
    return all([thing[k - 1] < thing[k] for k in range(1, len(thing))])


def is_world(thing):
    """Whether a thing is the word of a world."""
    return isinstance(thing, str) and thing in WORLDS


def is_box(thing, sides):
    """Whether a thing is a box with so many sides."""
    return is_row_of_ints(thing, sides) and all([part >= 1 for part in thing])


def is_same(thing, told):
    """Whether a thing is the same in kind, too, as what is told by tuples, strings and integers."""
    if isinstance(told, tuple):
        return (isinstance(thing, tuple) and len(thing) == len(told)
                and all([is_same(one, two) for one, two in zip(thing, told)]))
    if isinstance(told, str):
        return isinstance(thing, str) and thing == told
    return is_int(thing) and thing == told
