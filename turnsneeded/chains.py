"""Chains as long as can be but for a factor, told by nested rounds for boxes of every size."""

from turnsneeded.boxes import fits
from turnsneeded.checks import check_table
from turnsneeded.errors import NoNumber, NotWorking
from turnsneeded.flows import flow
from turnsneeded.judging import is_box, is_int_in
from turnsneeded.levels import levels, tables_of, turning_part
from turnsneeded.logs import begins_in, is_closed, is_log, reach, visits
from turnsneeded.turns import counts_of, left_over, rounds_of, shortest_walk, walk_round, with_rounds

GREATEST_N = 10 ** 12


def parts_around(program, table):
    """The list of the parts of levels that have a table, the outer ones first: NotWorking, NoTable."""
    told = levels(program, "boxes")
    if turning_part(told) is not None:
        raise NotWorking()
    check_table(program, table)
    found = []
    there = told
    while len(there) > 0:
        there = [level for level in there if table in tables_of(program, level[0])]
        if len(there) > 0:
            part, inner = there[0]
            found.append(part)
            there = inner
    return found


def loops_of(program, parts, table):
    """The list of pairs (walk, rounds) for the parts that have a table, the inner ones first.

    Each walk begins and ends in the table. What the walk of the part within adds up to, made n times,
    the rounds of a part, made n times as often, take back, since both together are some flow. So
    what the part within goes n times, at each of n steps of the part's own walk, hardly leads away.
    """
    loops = []
    counts = None
    for part in reversed(parts):
        if counts is None:
            walk = short_round(program, part, table)
            rounds = []
        else:
            walk = walk_round(program, part, table)
            rounds = rounds_of(program, left_over(flow(program, part, "boxes"), counts))
        loops.append((walk, rounds))
        counts = counts_of(walk, len(program.readings))
    return loops


def short_round(program, part, table):
    """The list of the readings of a walk of a part from a table back to it, one or more."""
    first = [k for k in part if program.readings[k][0] == table][0]
    return [first] + shortest_walk(program, part, program.readings[first][1], table)


def log_of_loops(program, loops, table, n):
    """The log of loops, each n times within the one around it."""
    log = ()
    for walk, rounds in loops:
        more = [(many * n, closed) for many, closed in rounds]
        log = (("times", n, log + with_rounds(program, table, walk, more)),)
    return log


def width_of(program, loops):
    """A number n times which is more than the log of loops reaches from end to end, for each n."""
    return max([1 + 2 * reach_of(program, loops, side) for side in range(program.sides)])


def reach_of(program, loops, side):
    """A number n times which is not less than the log of loops leads away on a side, for each n."""
    far = 0
    for walk, rounds in loops:
        # The walk counts twice: on the way through it, and for what it leads on n times.
        far = far + 2 * size_of(program, walk, side)
        far = far + sum([many * size_of(program, closed, side) for many, closed in rounds])
    return far


def size_of(program, walk, side):
    """The sum of the steps of a walk on a side, whatever their signs."""
    return sum([abs(program.readings[k][2][side]) for k in walk])


def chain_width(program, table):
    """How often n there is at most on each side of the boxes of the chains of a table."""
    return width_of(program, loops_of(program, parts_around(program, table), table))


def check_n(thing):
    """Raises NoNumber for what no chain is told for."""
    if not is_int_in(thing, 1, GREATEST_N):
        raise NoNumber()


def chain(program, table, n):
    """A box and a log that fits into it and stands in a table n ** its depth times or more."""
    parts = parts_around(program, table)
    check_n(n)
    log = log_of_loops(program, loops_of(program, parts, table), table, n)
    least, most = reach(program, log)
    return tuple([high - low + 1 for low, high in zip(least, most)]), log


def is_chain(program, table, n, thing):
    """Whether a thing is a box, however great, and a log as chain tells them."""
    parts = parts_around(program, table)
    check_n(n)
    if not isinstance(thing, tuple) or len(thing) != 2:
        return False
    box, log = thing
    if not is_box(box, program.sides) or not is_log(program, log):
        return False
    if len(parts) == 0 or len(log) == 0:
        return len(parts) == len(log)
    if not is_closed(program, log) or begins_in(program, log[0]) != table:
        return False
    wanted = 1
    for _ in parts:
        wanted = wanted * n
    return visits(program, log, table) >= wanted and fits(program, box, log)
