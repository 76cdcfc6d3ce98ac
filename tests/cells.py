"""What waits for what in small boxes, by going through them, that several tests share."""

from itertools import product

from things import lists_deep, odd_things, tuples_deep
from turnsneeded.programs import Program, program_of
from waiting import unit

HUGE = 10 ** 79
BAD_BOXES = [None, (), (0,), (1, 0), (-1,), (True,), [1], (1, 1, 1, 1, 1), "1", (HUGE, 0), ((1,),), tuples_deep(80), lists_deep(80), ("1",)]
BAD_MOST = [None, True, False, 0, -1, HUGE, "1", (), [1], (1,)]


def points_in(box):
    return list(product(*map(range, box)))


def pairs_in(program, box):
    return [(table, point) for table in range(program.tables) for point in points_in(box)]


def moved(point, step):
    return tuple(z - s for z, s in zip(point, step, strict=True))


def within(box, point):
    return all(0 <= z < size for z, size in zip(point, box, strict=True))


def read_by(program, pair):
    """The pairs that one reads, wherever they lie."""
    return [(read, moved(pair[1], step)) for reader, read, step in program.readings if reader == pair[0]]


def reads_in(program, box):
    """The dict from each pair of a box to the list of those of the box that it reads."""
    return {pair: [other for other in read_by(program, pair) if within(box, other[1])] for pair in pairs_in(program, box)}


def waits_in(program, box):
    """The dict from each pair of a box to the set of those for which it waits."""
    reads = reads_in(program, box)
    found = {pair: set(there) for pair, there in reads.items()}
    changed = True
    while changed:
        changed = False
        for pair in found:
            more = set().union(found[pair], *(found[other] for other in found[pair]))
            if more != found[pair]:
                found[pair] = more
                changed = True
    return found


def works_there(program, box):
    return all(pair not in there for pair, there in waits_in(program, box).items())


def ordered(program, box):
    """The list of all pairs of a box in which the program works, each behind all that it reads."""
    reads = reads_in(program, box)
    order = []
    while len(order) < len(reads):
        fresh = [pair for pair in reads if pair not in order and all(other in order for other in reads[pair])]
        order.extend(fresh)
    return order


def chain_shown(program, box, chain):
    """Whether a list is a chain in a box, by the words of 7.1."""
    if type(chain) is not list or not chain:
        return False
    pairs = set(pairs_in(program, box))
    return all(pair in pairs for pair in chain) and all(two in read_by(program, one) for one, two in zip(chain, chain[1:]))


def is_plain(thing):
    """Whether a thing is made of lists, tuples, strings and plain integers alone."""
    if type(thing) in (list, tuple):
        return all(map(is_plain, thing))
    return type(thing) in (int, str)


def bad_for(sides, boxes=BAD_BOXES):
    """Things that are no boxes of so many sides, odd things among them."""
    for thing in [*boxes, *odd_things(), (1,) * (sides + 1), (1,) * (sides - 1), [1] * sides, (1,) * (sides - 1) + (0,),
                  (True,) + (1,) * (sides - 1), (1,) * (sides - 1) + ("1",)]:
        if not (type(thing) is tuple and len(thing) == sides and all(type(one) is int and one > 0 for one in thing)):
            yield thing


def line_of(many):
    """A program, and a box with so many pairs which all wait one behind another."""
    return Program(1, 1, ((0, 0, (1,)),)), (many,)


def long_lines():
    """Programs and boxes of 5000 pairs that all wait one behind another, in unlike ways."""
    yield line_of(5000)
    yield Program(1, 1, ((0, 0, (-1,)),)), (5000,)
    yield Program(4, 1, ((0, 0, unit(4, 1)),)), (1, 5000, 1, 1)
    # From table to table, and from the last one on to the next point.
    yield Program(1, 8, tuple((k, k - 1, (0,)) if k else (0, 7, (1,)) for k in range(8))), (625,)
    # Along one side, and from its end back to the beginning of the next.
    yield Program(2, 1, ((0, 0, (0, 1)), (0, 0, (1, -49)))), (100, 50)


def greatest_in(tables, readings, far, chance, sides=4):
    """A program that works, as great as one that is passed on may be, with steps short enough for small boxes."""
    found = set()
    while len(found) < readings:
        step = (chance.randint(0, far),) + tuple(chance.randint(-far, far) for _ in range(sides - 1))
        reader, read = chance.randrange(tables), chance.randrange(tables)
        if step[0] > 0 or reader > read:
            found.add((reader, read, step))
    return program_of(sides, tables, list(found))
