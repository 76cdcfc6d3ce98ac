"""Programs of known depth, and programs by chance, that several tests share."""

import random

from turnsneeded.programs import Program, alone, also, backward, beside, program_of, renamed, stretched, turned

WORLDS = ("boxes", "corner")
LONG = 10 ** 12


def unit(sides, side):
    return tuple(int(k == side) for k in range(sides))


def nest(depth, sides):
    """A program that works, all of whose tables have this depth for boxes, from 1 to the sides.

    Each is made of the one less deep, and of the same backward, between which walks go
    along one side more; what walks within may come back to where it began.
    """
    program = Program(sides, 1, ((0, 0, unit(sides, 0)),))
    for side in range(1, depth):
        many = program.tables
        both = beside(program, backward(program))
        program = also(also(both, (0, many, (0,) * sides)), (many, 0, unit(sides, side)))
    return program


def climbing(depth):
    """The like of nest, with as many sides, turned so that it is just as deep in the corner."""
    rows = [unit(depth, side) for side in range(depth - 1)]
    return turned(nest(depth, depth), tuple(rows + [(-1,) * (depth - 1) + (1,)]))


def some_matrix(chance, sides):
    """A matrix of whole numbers whose determinant is 1 or -1."""
    rows = [list(unit(sides, side)) for side in range(sides)]
    for _ in range(6 if sides > 1 else 0):
        one, other = chance.sample(range(sides), 2)
        times = chance.choice((-2, -1, 1, 2))
        rows[one] = [a + times * b for a, b in zip(rows[one], rows[other])]
    chance.shuffle(rows)
    return tuple(map(tuple, rows))


def mixed(chance, program):
    """The same program, its tables called anew, its sides turned and its steps longer."""
    names = list(range(program.tables))
    chance.shuffle(names)
    again = renamed(turned(program, some_matrix(chance, program.sides)), tuple(names))
    return stretched(again, chance.choice((1, 2, LONG)))


def some_program(chance, sides, tables, many, far):
    """A program of readings by chance."""
    readings = {(chance.randrange(tables), chance.randrange(tables), tuple(chance.randint(-far, far) for _ in range(sides)))
                for _ in range(many)}
    return program_of(sides, tables, list(readings))


def led_program(chance, sides, tables, many, far):
    """A program of readings by chance, none of which a row makes earlier; many of them it leaves as they are."""
    row = [chance.randint(-2, 2) for _ in range(sides)]
    numbers = [chance.randint(-3, 3) for _ in range(tables)]
    readings = set()
    for _ in range(40 * many):
        reader, read = chance.randrange(tables), chance.randrange(tables)
        step = [chance.randint(-far, far) for _ in range(sides)]
        side = chance.randrange(sides)
        if abs(row[side]) == 1:
            rest = sum(a * b for a, b in zip(row, step)) - row[side] * step[side]
            step[side] = row[side] * (numbers[read] - numbers[reader] - rest + chance.choice((0, 0, 0, 1)))
        ahead = sum(a * b for a, b in zip(row, step)) + numbers[reader] - numbers[read]
        if len(readings) < many and ahead >= 0 and max(map(abs, step)) <= LONG:
            readings.add((reader, read, tuple(step)))
    return program_of(sides, tables, list(readings))


def some_programs(seed, many, most_tables=5, most_readings=12):
    """Programs by chance, of all sizes, some with steps as long as can be."""
    chance = random.Random(seed)
    for k in range(many):
        make = (some_program, led_program)[k % 2]
        yield make(chance, chance.randint(1, 4), chance.randint(1, most_tables), chance.randint(0, most_readings),
                   chance.choice((1, 1, 2, 5, LONG)))


def great_programs(seed):
    """Programs as great as those that are passed on may be, and as those that may be constructed."""
    chance = random.Random(seed)
    programs = []
    for far in (1, 3, LONG, 10 ** 70):
        for make in (some_program, led_program):
            programs.append(make(chance, 4, 8, 24, min(far, LONG)))
            programs.append(make(chance, 4, 1, 48, min(far, LONG)))
            programs.append(some_program(chance, 4, 16, 48, far))
    deep = nest(4, 4)
    programs.append(beside(deep, backward(deep)))
    programs.append(stretched(beside(climbing(4), climbing(4)), LONG))
    return programs


def some_lots(chance, program, many):
    """The lot of all readings, that of none, and some between."""
    everything = tuple(range(len(program.readings)))
    lots = [everything, ()]
    for _ in range(many):
        lots.append(tuple(k for k in everything if chance.random() < 0.6))
    return lots


def joined(readings):
    """The dict of the pairs of tables between which some walk of readings leads, one reading or more."""
    there = {(reader, read) for reader, read, _ in readings}
    tables = sorted({table for pair in there for table in pair})
    for between in tables:
        for begin in tables:
            for end in tables:
                if (begin, between) in there and (between, end) in there:
                    there.add((begin, end))
    return there


def lot_parts(program, lot):
    """The parts of a lot, by the words of 5.1."""
    there = joined([program.readings[k] for k in lot])
    rounds = [k for k in lot if (program.readings[k][1], program.readings[k][0]) in there
              or program.readings[k][0] == program.readings[k][1]]
    parts = []
    for k in rounds:
        table = program.readings[k][0]
        part = tuple(j for j in rounds if j == k or program.readings[j][0] == table
                     or (table, program.readings[j][0]) in there and (program.readings[j][0], table) in there)
        if part not in parts:
            parts.append(part)
    return sorted(parts)


def flow_shown(program, lot, world, amounts):
    """Whether amounts are a flow, by the words of 4.1."""
    if type(amounts) is not tuple or len(amounts) != len(program.readings):
        return False
    if any(type(one) is not int or one < 0 or (one and k not in lot) for k, one in enumerate(amounts)):
        return False
    for table in range(program.tables):
        out = sum(one for one, (reader, _, _) in zip(amounts, program.readings) if reader == table)
        if out != sum(one for one, (_, read, _) in zip(amounts, program.readings) if read == table):
            return False
    sums = [sum(one * step[side] for one, (_, _, step) in zip(amounts, program.readings)) for side in range(program.sides)]
    return all(one == 0 or (world == "corner" and one < 0) for one in sums)


def row_shown(program, lot, world, there, told):
    """Whether a pair is a row, if just these readings are kept, by the words of 4.2."""
    if type(told) is not tuple or len(told) != 2 or type(told[0]) is not tuple or type(told[1]) is not tuple:
        return False
    row, numbers = told
    if len(row) != program.sides or len(numbers) != program.tables or any(type(one) is not int for one in row + numbers):
        return False
    if world == "corner" and min(row) < 0:
        return False
    for k in lot:
        reader, read, step = program.readings[k]
        ahead = sum(a * b for a, b in zip(row, step)) + numbers[reader] - numbers[read]
        if (ahead != 0) if k in there else (ahead < 1):
            return False
    return True


def without_each(program):
    """The program without each of its readings in turn."""
    everything = range(len(program.readings))
    return [alone(program, tuple(j for j in everything if j != k)) for k in everything]
