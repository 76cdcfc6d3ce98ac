"""What all pairs of a box read, and by whom they are read, also outside the box."""

from turnsneeded.grids import Grid, pairs_read, working_waves


class Net:
    """The readings between the pairs of a box and what they read: NotWorking if some pair waits for itself.

    The order has all pairs of the box, each behind all that it reads; outside are the pairs
    that are no pairs of the box, but are read from within. For both it is known who reads them.
    The readings are those of each table.
    """

    def __init__(self, program, box):
        grid = Grid(program, box)
        waves = working_waves(grid)
        self.readings = [readings_of(program, table) for table in range(program.tables)]
        self.pairs = grid.pairs
        self.order = [grid.pairs[number] for wave in waves for number in wave]
        self.reads = {pair: pairs_read(program, pair) for pair in grid.pairs}
        self.readers = {pair: [] for pair in grid.pairs}
        for pair in grid.pairs:
            for other in self.reads[pair]:
                self.readers.setdefault(other, []).append(pair)
        self.outside = sorted([pair for pair in self.readers if pair not in self.reads])


def readings_of(program, table):
    """The tuple of the readings of a table, ascending."""
    return tuple([reading for reading in program.readings if reading[0] == table])
