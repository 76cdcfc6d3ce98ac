"""The pairs of a box by numbers, and what waits for what within it."""

from turnsneeded.errors import NotWorking
from turnsneeded.judging import is_int_in, is_row_of_ints


class Grid:
    """The pairs (table, point) of a box, numbered as they ascend, with what each of them reads within it.

    It is kept by numbers, as these are gone through much faster than points.
    """

    def __init__(self, program, box):
        self.pairs = pairs_of(program, box)
        self.reads = [[] for _ in self.pairs]
        self.readers = [[] for _ in self.pairs]
        points = len(self.pairs) // program.tables
        for reader, read, step in program.readings:
            # All that read within the box by this reading are as far from what they read.
            far = (read - reader) * points - place_in(box, step)
            for place in places_within(box, step):
                number = reader * points + place
                self.reads[number].append(number + far)
                self.readers[number + far].append(number)


def points_of(box):
    """The ascending list of the points of a box."""
    points = [()]
    for size in box:
        points = [point + (part,) for point in points for part in range(size)]
    return points


def pairs_of(program, box):
    """The ascending list of the pairs of a box."""
    points = points_of(box)
    return [(table, point) for table in range(program.tables) for point in points]


def place_in(box, point):
    """The place of a point among those of a box, or how many places a step leads on."""
    place = 0
    for size, part in zip(box, point):
        place = place * size + part
    return place


def places_within(box, step):
    """The list of the places of the points of a box that, less the step, are points of it, too."""
    places = [0]
    for size, part in zip(box, step):
        places = [place * size + k for place in places for k in range(max(0, part), min(size, size + part))]
    return places


def is_inside(box, point):
    """Whether a point lies in a box."""
    return all([0 <= part < size for part, size in zip(point, box)])


def is_pair_in(program, box, thing):
    """Whether a thing is a pair of a table and a point of a box, however great the box."""
    return (isinstance(thing, tuple) and len(thing) == 2 and is_int_in(thing[0], 0, program.tables - 1)
            and is_row_of_ints(thing[1], program.sides) and is_inside(box, thing[1]))


def pairs_read(program, pair):
    """The list of the pairs that one reads, in the box and outside, as its readings ascend."""
    table, point = pair
    return [(read, less(point, step)) for reader, read, step in program.readings if reader == table]


def less(point, step):
    """A point less a step."""
    return tuple([part - other for part, other in zip(point, step)])


def waves_of(grid):
    """The list of the waves of numbers; those that wait for themselves, or for such, are in none."""
    left = [len(there) for there in grid.reads]
    wave = [number for number, many in enumerate(left) if many == 0]
    found = []
    while len(wave) > 0:
        found.append(wave)
        fresh = []
        for number in wave:
            for reader in grid.readers[number]:
                left[reader] -= 1
                if left[reader] == 0:
                    fresh.append(reader)
        wave = sorted(fresh)
    return found


def is_whole(grid, waves):
    """Whether all pairs are in the waves, so that none waits for itself."""
    return sum([len(wave) for wave in waves]) == len(grid.pairs)


def working_waves(grid):
    """The waves of all numbers, NotWorking if some pair waits for itself."""
    waves = waves_of(grid)
    if not is_whole(grid, waves):
        raise NotWorking()
    return waves
