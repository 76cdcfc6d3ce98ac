"""What waits for what in told boxes: rings, chains, waves."""

from turnsneeded.checks import check_box, check_place, check_size, check_table
from turnsneeded.errors import NoNumber, NoPoint
from turnsneeded.grids import Grid, is_inside, is_pair_in, is_whole, less, waves_of, working_waves
from turnsneeded.judging import is_int, is_int_in
from turnsneeded.logs import is_walk, reach

GREATEST_CUBE = 8


def fits(program, box, log):
    """Whether the walk of a log, from somewhere on, stays in a box."""
    check_box(program, box)
    least, most = reach(program, log)
    return all([high - low < size for low, high, size in zip(least, most, box)])


def grid_of(program, box):
    """The grid of a box, NoBox or TooMany if there is none."""
    check_box(program, box)
    check_size(program, box)
    return Grid(program, box)


def works_in(program, box):
    """Whether no pair of a box waits for itself within it."""
    grid = grid_of(program, box)
    return is_whole(grid, waves_of(grid))


def ring_in(program, box):
    """A table, a point and a walk from there back within the box, None if there is no such walk."""
    grid = grid_of(program, box)
    free = [False] * len(grid.pairs)
    for wave in waves_of(grid):
        for number in wave:
            free[number] = True
    if all(free):
        return None
    # What is in no wave reads something that is in none, so this comes round at last.
    way = [free.index(False)]
    places = {}
    while way[-1] not in places:
        places[way[-1]] = len(way) - 1
        way.append([number for number in grid.reads[way[-1]] if not free[number]][0])
    ring = [grid.pairs[number] for number in way[places[way[-1]]:]]
    table, point = ring[0]
    return table, point, tuple([reading_between(program, ring[k], ring[k + 1]) for k in range(len(ring) - 1)])


def reading_between(program, pair, other):
    """The number of the reading by which a pair reads another."""
    return program.readings.index(step_between(pair, other))


def step_between(pair, other):
    """The reading by which a pair would read another, whether it is there or not."""
    return pair[0], other[0], less(pair[1], other[1])


def is_ring_in(program, box, thing):
    """Whether a thing is a table, a point and a walk from there back within the box."""
    check_box(program, box)
    if not isinstance(thing, tuple) or len(thing) != 3 or not is_pair_in(program, box, thing[:2]):
        return False
    table, point, walk = thing
    if not is_walk(program, walk) or len(walk) == 0:
        return False
    at = table, point
    for k in walk:
        reader, read, step = program.readings[k]
        if at[0] != reader:
            return False
        at = read, less(at[1], step)
        if not is_inside(box, at[1]):
            return False
    return at == (table, point)


def most_points(grid, table):
    """The list, for each number, of the most points of a table in a chain that begins there."""
    most = [0] * len(grid.pairs)
    for wave in working_waves(grid):
        for number in wave:
            here = 1 if grid.pairs[number][0] == table else 0
            most[number] = here + max([most[other] for other in grid.reads[number]], default=0)
    return most


def longest(program, box, table):
    """The greatest number of points of a table in a chain in a box."""
    check_box(program, box)
    check_table(program, table)
    return max(most_points(grid_of(program, box), table))


def longest_chain(program, box, table):
    """A chain in a box with the most points of a table."""
    check_box(program, box)
    check_table(program, table)
    grid = grid_of(program, box)
    most = most_points(grid, table)
    number = most.index(max(most))
    chain = [grid.pairs[number]]
    while len(grid.reads[number]) > 0:
        there = grid.reads[number]
        counts = [most[other] for other in there]
        number = there[counts.index(max(counts))]
        chain.append(grid.pairs[number])
    return chain


def is_chain_in(program, box, thing):
    """Whether a thing is a chain in a box."""
    check_box(program, box)
    if not isinstance(thing, list) or len(thing) == 0:
        return False
    if not all([is_pair_in(program, box, pair) for pair in thing]):
        return False
    return all([step_between(thing[k - 1], thing[k]) in program.readings for k in range(1, len(thing))])


def waits_for(program, box, table, point):
    """The ascending list of the pairs of a box for which one waits within it."""
    check_box(program, box)
    check_place(program, table, point)
    if not is_inside(box, point):
        raise NoPoint()
    grid = grid_of(program, box)
    waiting = [grid.pairs.index((table, point))]
    found = {}
    while len(waiting) > 0:
        number = waiting.pop()
        for other in grid.reads[number]:
            if other not in found:
                found[other] = True
                waiting.append(other)
    return [grid.pairs[number] for number in sorted(found)]


def least_cube(program, most):
    """The least number of points on each side, up to most, of a box in which the program does not work, or None."""
    if not is_int_in(most, 1, GREATEST_CUBE):
        raise NoNumber()
    check_size(program, (most,) * program.sides)
    for size in range(1, most + 1):
        if not works_in(program, (size,) * program.sides):
            return size
    return None


def waves(program, box):
    """The list of the waves of pairs, each as early as can be."""
    grid = grid_of(program, box)
    return [[grid.pairs[number] for number in wave] for wave in working_waves(grid)]


def turns_with(program, box, workers):
    """How many turns the waves take, with at most so many pairs in each."""
    check_box(program, box)
    if not is_int(workers) or workers < 1:
        raise NoNumber()
    return sum([-(-len(wave) // workers) for wave in waves(program, box)])
