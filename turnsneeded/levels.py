"""Parts of readings that wait for one another, and the levels of parts within parts."""

from turnsneeded.checks import check_world
from turnsneeded.errors import NoLot
from turnsneeded.flows import kept_ones
from turnsneeded.judging import is_lot, is_same


def check_lot(program, lot):
    """Raises NoLot for what is no lot of numbers of readings."""
    if not is_lot(lot, len(program.readings)):
        raise NoLot()


def reached(program, lot):
    """The list, for each table, of the dict of the tables to which walks of a lot lead from it, itself one."""
    ahead = [[] for _ in range(program.tables)]
    for k in lot:
        reader, read, _ = program.readings[k]
        ahead[reader].append(read)
    return [reached_from(ahead, table) for table in range(program.tables)]


def reached_from(ahead, table):
    """The dict of the tables to which walks lead from a table."""
    found = {table: True}
    waiting = [table]
    while len(waiting) > 0:
        reader = waiting.pop()
        for read in ahead[reader]:
            if read not in found:
                found[read] = True
                waiting.append(read)
    return found


def parts(program, lot):
    """The ascending list of the parts of a lot."""
    check_lot(program, lot)
    return parts_of(program, lot)


def parts_of(program, lot):
    """The parts of a right lot."""
    reach = reached(program, lot)
    groups = {}
    for k in lot:
        reader, read, _ = program.readings[k]
        if reader in reach[read]:
            # The least table from which a walk leads back names the part.
            name = min([table for table in reach[reader] if reader in reach[table]])
            groups.setdefault(name, []).append(k)
    return sorted([tuple(group) for group in groups.values()])


def tables_of(program, lot):
    """The lot of the tables that some reading of a lot has."""
    check_lot(program, lot)
    pairs = [program.readings[k][:2] for k in lot]
    return tuple(sorted(set([table for pair in pairs for table in pair])))


def levels(program, world):
    """The levels of all readings of a program."""
    check_world(world)
    return levels_of(program, tuple(range(len(program.readings))), world)


def levels_of(program, lot, world):
    """The levels of the parts of a lot; each is less wide than the one around it, so they are few."""
    return tuple([(part, inner_of(program, part, world)) for part in parts_of(program, lot)])


def inner_of(program, part, world):
    """What stands within a part."""
    there = kept_ones(program, part, world)
    if there == part:
        return "turn"
    return levels_of(program, there, world)


def is_levels(program, world, thing):
    """Whether a thing is the levels of a program."""
    return is_same(thing, levels(program, world))


def turning_part(told):
    """A part of levels that is kept whole, None if there is none."""
    for part, inner in told:
        if inner == "turn":
            return part
        found = turning_part(inner)
        if found is not None:
            return found
    return None


def works(program, world):
    """Whether no point waits for itself."""
    return turning_part(levels(program, world)) is None


def depths(program, world):
    """The tuple, for each table, of the number of parts that have it, None if the program does not work."""
    told = levels(program, world)
    if turning_part(told) is not None:
        return None
    counts = [0] * program.tables
    add_depths(program, told, counts)
    return tuple(counts)


def add_depths(program, told, counts):
    """Counts each part of levels for the tables that it has."""
    for part, inner in told:
        for table in tables_of(program, part):
            counts[table] = counts[table] + 1
        add_depths(program, inner, counts)
