"""Flows of readings, and rows by which the readings without one are later."""

from turnsneeded.checks import check_world
from turnsneeded.cones import both_sides, common_of
from turnsneeded.errors import NoLot
from turnsneeded.judging import is_lot, is_row_of_ints
from turnsneeded.ratios import weighed


def check_lot_and_world(program, lot, world):
    """Raises NoLot or NoWorld for what is none."""
    if not is_lot(lot, len(program.readings)):
        raise NoLot()
    check_world(world)


def sums_of(program, lot, world):
    """The rows that a flow of a lot makes 0: one for each table, one for each side.

    In the corner a place more for each side takes up what the steps are below 0.
    """
    readings = [program.readings[k] for k in lot]
    more = program.sides if world == "corner" else 0
    rows = []
    for table in range(program.tables):
        rows.append([int(reader == table) - int(read == table) for reader, read, _ in readings] + [0] * more)
    for side in range(program.sides):
        steps = [step[side] for _, _, step in readings]
        # Any number above 0 would do; this one leaves the steps their common factor.
        unit = max(1, common_of(steps))
        rows.append(steps + [unit if k == side else 0 for k in range(more)])
    return rows


def flow_and_row(program, lot, world):
    """A flow with 1 or more for all kept readings of a lot, and a row."""
    x, y = both_sides(sums_of(program, lot, world), len(lot))
    amounts = [0] * len(program.readings)
    for k, amount in zip(lot, x):
        amounts[k] = amount
    return tuple(amounts), (tuple(y[program.tables:]), tuple(y[:program.tables]))


def kept_ones(program, lot, world):
    """The lot of the kept readings of a right lot."""
    amounts, _ = flow_and_row(program, lot, world)
    return tuple([k for k in lot if amounts[k] > 0])


def kept(program, lot, world):
    """The lot of the readings of a lot that some flow of it has."""
    check_lot_and_world(program, lot, world)
    return kept_ones(program, lot, world)


def flow(program, lot, world):
    """A flow of a lot that has all kept readings."""
    check_lot_and_world(program, lot, world)
    return flow_and_row(program, lot, world)[0]


def row(program, lot, world):
    """A row of a lot, by which all readings that are not kept are later."""
    check_lot_and_world(program, lot, world)
    return flow_and_row(program, lot, world)[1]


def is_flow(program, lot, world, thing):
    """Whether a thing is a flow of a lot."""
    check_lot_and_world(program, lot, world)
    if not is_row_of_ints(thing, len(program.readings)) or not all([amount >= 0 for amount in thing]):
        return False
    if sum(thing) != sum([thing[k] for k in lot]):
        return False
    # The places that take up what is below 0 in the corner are left out: the sums tell it themselves.
    sums = [weighed(line, [thing[k] for k in lot]) for line in sums_of(program, lot, "boxes")]
    if not all([part == 0 for part in sums[:program.tables]]):
        return False
    if world == "boxes":
        return all([part == 0 for part in sums[program.tables:]])
    return all([part <= 0 for part in sums[program.tables:]])


def is_row(program, lot, world, thing):
    """Whether a thing is a row of a lot."""
    check_lot_and_world(program, lot, world)
    if not isinstance(thing, tuple) or len(thing) != 2:
        return False
    if not is_side_row(program, world, thing[0]) or not is_row_of_ints(thing[1], program.tables):
        return False
    there = kept_ones(program, lot, world)
    for k in lot:
        ahead = lateness(program.readings[k], thing)
        if ahead < 0 or (ahead == 0) != (k in there):
            return False
    return True


def is_side_row(program, world, thing):
    """Whether a thing is a tuple of an integer for each side, for the corner none below 0."""
    if not is_row_of_ints(thing, program.sides):
        return False
    return world == "boxes" or all([part >= 0 for part in thing])


def lateness(reading, told):
    """By how much the reader stands behind what it reads, by a pair (row, numbers)."""
    reader, read, step = reading
    return weighed(told[0], step) + told[1][reader] - told[1][read]
