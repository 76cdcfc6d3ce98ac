"""Walks, and logs, which tell long walks by rounds."""

from turnsneeded.checks import check_table, check_world
from turnsneeded.errors import NoLog, TooMany
from turnsneeded.judging import is_int, is_int_in

DEEPEST_ROUNDS = 30
LONGEST_WRITTEN = 5000


def is_walk(program, thing):
    """Whether a thing is a walk of the program."""
    if not isinstance(thing, tuple):
        return False
    last = len(program.readings) - 1
    return all([is_int_in(item, 0, last) for item in thing]) and leads_on(program, thing)


def is_log(program, thing):
    """Whether a thing is a log of the program, and its walk is a walk."""
    return has_form(program, thing, DEEPEST_ROUNDS) and leads_on(program, thing)


def has_form(program, thing, deep):
    """Whether a thing is a log with rounds at most so deep, wherever its readings lead."""
    if not isinstance(thing, tuple):
        return False
    for item in thing:
        if not is_int_in(item, 0, len(program.readings) - 1) and not is_rounds(program, item, deep):
            return False
    return True


def is_rounds(program, item, deep):
    """Whether a thing is rounds with others in them, together at most so deep."""
    if deep == 0 or not isinstance(item, tuple) or len(item) != 3:
        return False
    word, many, log = item
    if not isinstance(word, str) or word != "times" or not is_int(many) or many < 1:
        return False
    return has_form(program, log, deep - 1) and len(log) > 0


def leads_on(program, log):
    """Whether the walk of a log, which has the form of one, is a walk."""
    for k, item in enumerate(log):
        if k > 0 and ends_in(program, log[k - 1]) != begins_in(program, item):
            return False
        if isinstance(item, tuple):
            _, many, inner = item
            if not leads_on(program, inner):
                return False
            # Rounds that are made once never begin anew.
            if many > 1 and ends_in(program, item) != begins_in(program, item):
                return False
    return True


def begins_in(program, item):
    """The table in which an item of a log begins."""
    while isinstance(item, tuple):
        item = item[2][0]
    return program.readings[item][0]


def ends_in(program, item):
    """The table in which an item of a log ends."""
    while isinstance(item, tuple):
        item = item[2][-1]
    return program.readings[item][1]


def check_log(program, log):
    """Raises NoLog for what is no log of the program."""
    if not is_log(program, log):
        raise NoLog()


def counts_of(program, log):
    """The list of how often each reading of the program stands in the walk of a log."""
    counts = [0] * len(program.readings)
    add_counts(log, 1, counts)
    return counts


def add_counts(log, times, counts):
    """Adds how often each reading stands in the walk of a log that is made so many times."""
    for item in log:
        if isinstance(item, tuple):
            _, many, inner = item
            add_counts(inner, times * many, counts)
        else:
            counts[item] = counts[item] + times


def length(program, log):
    """How many readings the walk of a log has."""
    check_log(program, log)
    return sum(counts_of(program, log))


def added(program, log):
    """The tuple of what the steps of a log add up to."""
    check_log(program, log)
    counts = counts_of(program, log)
    steps = [reading[2] for reading in program.readings]
    return tuple([sum([counts[k] * step[side] for k, step in enumerate(steps)]) for side in range(program.sides)])


def ends_of(program, log):
    """The pair of the tables in which a log begins and ends, None for the empty one."""
    check_log(program, log)
    if len(log) == 0:
        return None
    return begins_in(program, log[0]), ends_in(program, log[-1])


def reach(program, log):
    """The pair of the least and the greatest of where the walk of a log stands, side by side."""
    check_log(program, log)
    spans = [span_of(program, log, side) for side in range(program.sides)]
    return tuple([span[1] for span in spans]), tuple([span[2] for span in spans])


def span_of(program, log, side):
    """Where a walk that begins at 0 ends on a side, and the least and the greatest of where it stands there."""
    at = 0
    least = 0
    most = 0
    for item in log:
        end, low, high = item_span(program, item, side)
        least = min(least, at + low)
        most = max(most, at + high)
        at = at + end
    return at, least, most


def item_span(program, item, side):
    """The like of an item of a log, behind its readings alone."""
    if not isinstance(item, tuple):
        end = -program.readings[item][2][side]
        return end, end, end
    _, many, inner = item
    end, low, high = span_of(program, inner, side)
    # Each of the rounds is moved on by the same, so the first or the last of them goes farthest.
    last = (many - 1) * end
    return many * end, low + min(0, last), high + max(0, last)


def visits(program, log, table):
    """How often the walk of a log stands in a table, at first and behind each reading."""
    check_log(program, log)
    check_table(program, table)
    if len(log) == 0:
        return 0
    counts = counts_of(program, log)
    behind = sum([counts[k] for k, reading in enumerate(program.readings) if reading[1] == table])
    if begins_in(program, log[0]) == table:
        return behind + 1
    return behind


def written_out(program, log):
    """The walk of a log, a tuple of numbers of readings."""
    if length(program, log) > LONGEST_WRITTEN:
        raise TooMany(LONGEST_WRITTEN)
    return tuple(walk_of(log))


def walk_of(log):
    """The list of the readings of a log, one behind another."""
    walk = []
    for item in log:
        if isinstance(item, tuple):
            _, many, inner = item
            walk.extend(walk_of(inner) * many)
        else:
            walk.append(item)
    return walk


def is_closed(program, log):
    """Whether a right log is not empty and ends in the table in which it begins."""
    return len(log) > 0 and begins_in(program, log[0]) == ends_in(program, log[-1])


def is_turn(program, world, thing):
    """Whether a thing is a turn for a world."""
    check_world(world)
    if not is_log(program, thing) or not is_closed(program, thing):
        return False
    sums = added(program, thing)
    if world == "boxes":
        return all([part == 0 for part in sums])
    return all([part <= 0 for part in sums])
