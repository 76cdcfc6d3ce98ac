"""Turns: closed walks by which some point waits for itself."""

from turnsneeded.errors import NoNumber
from turnsneeded.flows import flow
from turnsneeded.judging import is_int_in
from turnsneeded.levels import levels, tables_of, turning_part

LONGEST_SHORT_TURN = 6


def turn(program, world):
    """A turn, None if the program works."""
    part = turning_part(levels(program, world))
    if part is None:
        return None
    begin = tables_of(program, part)[0]
    walk = walk_round(program, part, begin)
    left = left_over(flow(program, part, world), counts_of(walk, len(program.readings)))
    return with_rounds(program, begin, walk, rounds_of(program, left))


def left_over(amounts, counts):
    """What is left of the amounts, made so many times that the counts, which have no others, are a part of them."""
    times = max([1] + [-(-count // amount) for amount, count in zip(amounts, counts) if count > 0])
    return [times * amount - count for amount, count in zip(amounts, counts)]


def counts_of(walk, many):
    """The list of how often each of so many readings stands in a walk."""
    counts = [0] * many
    for k in walk:
        counts[k] = counts[k] + 1
    return counts


def walk_round(program, part, begin):
    """The list of the readings of a walk from a table of a part through all others and back."""
    walk = []
    at = begin
    for table in tables_of(program, part) + (begin,):
        walk.extend(shortest_walk(program, part, at, table))
        at = table
    return walk


def shortest_walk(program, part, begin, end):
    """The list of the readings of a walk of a part from one table to another, of as few as can be."""
    walks = {begin: []}
    waiting = [begin]
    while end not in walks:
        fresh = []
        for table in waiting:
            for k in part:
                reader, read, _ = program.readings[k]
                if reader == table and read not in walks:
                    walks[read] = walks[table] + [k]
                    fresh.append(read)
        waiting = fresh
    return walks[end]


def rounds_of(program, amounts):
    """The list of pairs (many, closed walk), with each table at most once in each, that make up amounts."""
    left = list(amounts)
    found = []
    for k in range(len(left)):
        while left[k] > 0:
            walk = closed_walk(program, left, k)
            many = min([left[j] for j in walk])
            found.append((many, walk))
            for j in walk:
                left[j] = left[j] - many
    return found


def closed_walk(program, amounts, first):
    """A closed walk of readings with amounts above 0, on the way from the first one."""
    walk = [first]
    while True:
        reader, read, _ = program.readings[walk[-1]]
        readers = [program.readings[k][0] for k in walk]
        if read in readers:
            return walk[readers.index(read):]
        # As much leads on from each table as leads to it.
        walk.append(min([k for k, amount in enumerate(amounts) if amount > 0 and program.readings[k][0] == read]))


def with_rounds(program, begin, walk, rounds):
    """The log of a walk from a table on, with rounds where it first comes to their tables."""
    log = rounds_at(program, rounds, begin)
    met = {begin: True}
    for k in walk:
        log.append(k)
        at = program.readings[k][1]
        if at not in met:
            met[at] = True
            log.extend(rounds_at(program, rounds, at))
    return tuple(log)


def rounds_at(program, rounds, table):
    """The list of the items of a log that are the rounds which begin in a table."""
    items = []
    for many, walk in rounds:
        if program.readings[walk[0]][0] == table:
            if many == 1:
                items.extend(walk)
            else:
                items.append(("times", many, tuple(walk)))
    return items


def shortest_turn(program, most):
    """The least of the shortest walks of at most so many readings that are turns for boxes, or None."""
    if not is_int_in(most, 1, LONGEST_SHORT_TURN):
        raise NoNumber()
    for many in range(1, most + 1):
        walk = least_turn(program, many)
        if walk is not None:
            return walk
    return None


def least_turn(program, many):
    """The least turn of so many readings, put together of two halves, of which there are far fewer."""
    behind = {}
    for walk, begin, end, total in walks_of(program, many // 2):
        behind.setdefault((begin, end, total), walk)
    for walk, begin, end, total in walks_of(program, many - many // 2):
        rest = behind.get((end, begin, tuple([-part for part in total])), None)
        if rest is not None:
            return walk + rest
    return None


def walks_of(program, many):
    """The list of all walks of so many readings, ascending, with their ends and what their steps add up to."""
    # Readings ascend by their readers, so walks that begin in ascending tables ascend, too.
    noughts = (0,) * program.sides
    found = [((), table, table, noughts) for table in range(program.tables)]
    for _ in range(many):
        fresh = []
        for walk, begin, end, total in found:
            for k, (reader, read, step) in enumerate(program.readings):
                if reader == end:
                    fresh.append((walk + (k,), begin, read, tuple([one + two for one, two in zip(total, step)])))
        found = fresh
    return found
