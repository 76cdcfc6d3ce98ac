"""Walks, logs and turns (2.1, 2.2, 2.3)."""

import copy
import random
import unittest
from itertools import product

from things import (AHEAD, ALL_PROGRAMS, BOTH, DEEP, EMPTY, FULL, GREAT, LINE, ROUND, TWO, lists_deep, odd_things,
                    rounds_deep, tuples_deep)
from turnsneeded.errors import NoLog, NoTable, NoWorld, TooMany
from turnsneeded.logs import (added, ends_of, is_log, is_turn, is_walk, length, reach, visits, written_out)
from turnsneeded.programs import Program, beside, stretched

HUGE = 10 ** 60
# Readings 0 to 4 lead 0-0, 0-1, 1-0, 1-2, 2-0.
MAZE = Program(2, 3, ((0, 0, (2, -3)), (0, 1, (0, 5)), (1, 0, (-1, 1)), (1, 2, (4, 4)), (2, 0, (-7, 0))))


def walk_told(log):
    """The walk of a thing with the form of a log, made round by round."""
    walk = []
    for item in log:
        if isinstance(item, tuple):
            for _ in range(item[1]):
                walk.extend(walk_told(item[2]))
        else:
            walk.append(item)
    return walk


def leads(program, walk):
    rows = program.readings
    return all(rows[walk[k - 1]][1] == rows[walk[k]][0] for k in range(1, len(walk)))


def places(program, walk):
    """All (table, point) at which a walk stands that begins at 0."""
    rows = program.readings
    if not walk:
        return []
    stands = [(rows[walk[0]][0], (0,) * program.sides)]
    for number in walk:
        point = tuple(z - s for z, s in zip(stands[-1][1], rows[number][2]))
        stands.append((rows[number][1], point))
    return stands


def some_logs(program, many):
    """Things with the form of a log, most of them short, some of them with walks."""
    chance = random.Random(7)

    def some_log(deep, least):
        items = []
        for _ in range(chance.randint(least, 3)):
            if deep > 0 and chance.random() < 0.4:
                items.append(("times", chance.randint(1, 3), some_log(deep - 1, 1)))
            else:
                items.append(chance.randrange(len(program.readings)))
        return tuple(items)

    return [some_log(3, 0) for _ in range(many)]


class Walks(unittest.TestCase):
    def test_right_walks(self):
        for walk in ((), (0,), (0, 0, 0), (0, 1), (1, 2), (1, 3), (1, 3, 4, 0, 0, 1, 2, 0), (4, 1), (2, 1, 3)):
            self.assertIs(is_walk(MAZE, walk), True)
        self.assertIs(is_walk(LINE, (0,) * 5000), True)
        self.assertIs(is_walk(EMPTY, ()), True)

    def test_each_short_tuple(self):
        for many in range(4):
            for walk in product(range(5), repeat=many):
                self.assertIs(is_walk(MAZE, walk), leads(MAZE, walk))

    def test_steps_that_do_not_lead_on(self):
        for walk in ((0, 2), (0, 4), (1, 0), (1, 1), (2, 2), (3, 0), (3, 2), (0, 1, 2, 3), (1, 3, 4, 4)):
            self.assertIs(is_walk(MAZE, walk), False)
        self.assertIs(is_walk(ROUND, (0, 1) * 2000 + (0,)), True)
        self.assertIs(is_walk(ROUND, (0, 1) * 2000 + (1,)), False)

    def test_things_that_are_no_walks(self):
        for program in (LINE, MAZE, GREAT):
            for thing in [*odd_things(), [], [0], (0, 48), (48,), (-1,), (0, -1), (True,), (False,), (0, False), (0, True),
                          (None,), ("0",), ((0,),), (0, (0,)), (("times", 1, (0,)),), 0, "0", range(1), {0: 0}]:
                self.assertIs(is_walk(program, thing), False)
        self.assertIs(is_walk(LINE, (1,)), False)
        self.assertIs(is_walk(EMPTY, (0,)), False)
        self.assertIs(is_walk(MAZE, (5,)), False)

    def test_great_programs(self):
        self.assertIs(is_walk(GREAT, (0, 1, 9)), leads(GREAT, (0, 1, 9)))
        self.assertIs(is_walk(GREAT, (24, 24, 25, 33)), leads(GREAT, (24, 24, 25, 33)))
        self.assertIs(is_walk(GREAT, (47,)), True)
        self.assertIs(is_walk(GREAT, (0, 24)), False)


class Logs(unittest.TestCase):
    def test_right_logs(self):
        for log in ((), (0,), (("times", 1, (0,)),), (("times", HUGE, (0,)),), (0, ("times", 2, (0,)), 1),
                    (("times", 5, (1, 2)),), (("times", 5, (1, 3, ("times", 1, (4,)))),), (("times", 1, (1,)), 2),
                    (1, ("times", 3, (2, ("times", 2, (0, 0)), 1)), 3, 4), (("times", 1, (("times", 1, (1,)),)), 3)):
            self.assertIs(is_log(MAZE, log), True)
        self.assertIs(is_log(EMPTY, ()), True)

    def test_each_walk_is_a_log(self):
        for many in range(4):
            for walk in product(range(5), repeat=many):
                self.assertIs(is_log(MAZE, walk), leads(MAZE, walk))

    def test_some_logs_by_their_walks(self):
        right = 0
        for program in (LINE, ROUND, MAZE, TWO, DEEP):
            for log in some_logs(program, 1500):
                self.assertIs(is_log(program, log), leads(program, walk_told(log)))
                right += is_log(program, log)
        self.assertGreater(right, 3000)

    def test_things_that_are_no_logs(self):
        for program in (LINE, MAZE, GREAT):
            for thing in [*odd_things(), [], [0], (48,), (0, 48), (-1,), (0, -1), (True,), (False,), (0, True), (0, False),
                          ("times", 2, (0,)), 0, "0", range(1), {0: 0}]:
                self.assertIs(is_log(program, thing), False)
        self.assertIs(is_log(MAZE, (5,)), False)
        self.assertIs(is_log(LINE, (1,)), False)
        self.assertIs(is_log(EMPTY, (0,)), False)

    def test_items_that_are_no_rounds(self):
        for item in (["times", 2, (0,)], ("times", 2, [0]), ("times", 2, ()), ("times", 0, (0,)), ("times", -1, (0,)),
                     ("times", -HUGE, (0,)), ("times", True, (0,)), ("times", False, (0,)), ("times", "2", (0,)),
                     ("times", None, (0,)), ("times", (2,), (0,)), ("times", 2, 0), ("times", 2, None), ("times", 2, (1,)),
                     ("times", 2, (-1,)), ("times", 2, (True,)), ("times", 2, (False,)), ("times", 2, "0"),
                     ("time", 2, (0,)), ("TIMES", 2, (0,)), ("times ", 2, (0,)), (b"times", 2, (0,)), ("", 2, (0,)),
                     (0, 2, (0,)), (None, 2, (0,)), (("times",), 2, (0,)), (2, "times", (0,)), ("times", (0,), 2),
                     ("times", 2), ("times", 2, (0,), 0), ("times", 2, (0,), (0,)), ("times",), (), "times", (0,),
                     ("times", 2, ((),)), ("times", 2, ((0,),)), ("times", 2, ("times", 2, (0,))),
                     ("times", 2, (("times", 0, (0,)),)), ("times", 2, (("times", 2, ()),)), ("boxes", 2, (0,))):
            self.assertIs(is_log(LINE, (item,)), False)
            self.assertIs(is_log(LINE, (0, item)), False)
            self.assertIs(is_log(LINE, (item, 0)), False)
            self.assertIs(is_log(LINE, (0, ("times", 3, (item, 0)))), False)

    def test_odd_things_in_every_place_of_rounds(self):
        for thing in odd_things():
            if type(thing) is not str or thing != "times":
                self.assertIs(is_log(LINE, ((thing, 2, (0,)),)), False)
            if type(thing) is not int or thing < 1:
                self.assertIs(is_log(LINE, (("times", thing, (0,)),)), False)
            self.assertIs(is_log(LINE, (("times", 2, thing),)), False)
            right = repr(thing) == "('times', 1, (0,))"
            self.assertIs(is_log(LINE, (("times", 2, (0, thing)),)), right)

    def test_rounds_nested_30_deep_and_31(self):
        self.assertIs(is_log(LINE, rounds_deep(30)), True)
        self.assertIs(is_log(LINE, rounds_deep(31)), False)
        self.assertIs(is_log(LINE, rounds_deep(29, 1, (0, ("times", 2, (0,)), 0))), True)
        self.assertIs(is_log(LINE, rounds_deep(30, 1, (0, ("times", 2, (0,)), 0))), False)
        self.assertIs(is_log(LINE, rounds_deep(30) * 100), True)
        self.assertIs(is_log(LINE, (0,) + rounds_deep(30) + (0,) + rounds_deep(31)), False)
        self.assertIs(is_log(LINE, rounds_deep(39)), False)
        self.assertIs(is_log(MAZE, rounds_deep(30, HUGE, (1, 2))), True)
        self.assertIs(is_log(MAZE, rounds_deep(30, HUGE, (1, 3))), False)
        self.assertIs(is_log(MAZE, rounds_deep(30, 1, (1, 3))), True)

    def test_steps_that_do_not_lead_on_from_item_to_item(self):
        once = ("times", 1, (1,))
        for log in ((0, ("times", 2, (2, 1))), (("times", 2, (1, 2)), 2), (("times", 2, (1, 2)), 4), (once, once),
                    (once, 0), (2, ("times", 1, (2,))), (("times", 2, (0,)), ("times", 2, (2, 1))),
                    (0, ("times", 1, (("times", 1, (3,)),)))):
            self.assertIs(is_log(MAZE, log), False)
        self.assertIs(is_log(MAZE, (1, ("times", 2, (2, 1)))), True)
        self.assertIs(is_log(MAZE, (("times", 2, (0,)), ("times", 2, (1, 2)), 1, ("times", 2, (2, 1)))), True)

    def test_steps_that_do_not_lead_on_inside_rounds(self):
        for many in (1, 2, HUGE):
            for inner in ((0, 2), (1, 1), (1, 3, 0), (1, 2, 2), (1, 4)):
                self.assertIs(is_log(MAZE, (("times", many, inner),)), False)
                self.assertIs(is_log(MAZE, (("times", 1, (("times", many, inner),)),)), False)

    def test_rounds_that_begin_anew(self):
        for inner, closed in (((0,), True), ((1,), False), ((1, 2), True), ((1, 3), False), ((2,), False), ((4, 1, 3), True),
                              ((1, 3, 4), True), ((3, 4), False), ((4,), False), ((("times", 1, (1,)),), False),
                              ((("times", 1, (1,)), 2), True), ((1, ("times", 1, (3,))), False)):
            self.assertIs(is_log(MAZE, (("times", 1, inner),)), True)
            for many in (2, 3, HUGE):
                self.assertIs(is_log(MAZE, (("times", many, inner),)), closed)
                self.assertIs(is_log(MAZE, (("times", 1, (("times", many, inner),)),)), closed)
                self.assertIs(is_log(MAZE, (("times", many, (("times", 1, inner),)),)), closed)

    def test_logs_of_some_thousand_items(self):
        self.assertIs(is_log(LINE, (0,) * 9990), True)
        self.assertIs(is_log(LINE, (0,) * 9990 + (1,)), False)
        self.assertIs(is_log(ROUND, (("times", 4, (0, 1)), 0, 1) * 1400), True)
        self.assertIs(is_log(ROUND, (("times", 4, (0, 1)), 0, 1) * 1400 + (1,)), False)

    def test_great_programs(self):
        rows = GREAT.readings
        loops = [k for k, reading in enumerate(rows) if reading[0] == reading[1]]
        self.assertEqual(loops, [0, 9, 18, 24, 33, 42])
        for k in loops:
            self.assertIs(is_log(GREAT, (("times", HUGE, (k,)),)), True)
        self.assertIs(is_log(GREAT, (("times", 2, (47,)),)), False)
        self.assertIs(is_log(GREAT, (("times", 1, (47,)),)), True)


class Told(unittest.TestCase):
    """What logs tell, against the walks told reading by reading."""

    def test_example_e06(self):
        log = (("times", 3, (0,)),)
        self.assertEqual((length(LINE, log), added(LINE, log), reach(LINE, log), visits(LINE, log, 0)),
                         (3, (3,), ((-3,), (0,)), 4))

    def test_by_walks(self):
        for program in (LINE, ROUND, MAZE, TWO, DEEP, AHEAD, BOTH, stretched(MAZE, 10 ** 12), beside(TWO, MAZE)):
            for log in some_logs(program, 700):
                walk = walk_told(log)
                if leads(program, walk):
                    self.compared(program, log, tuple(walk))

    def compared(self, program, log, walk):
        rows = program.readings
        noughts = (0,) * program.sides
        stands = places(program, walk)
        points = [point for _, point in stands] or [noughts]
        sums = tuple(sum(rows[k][2][side] for k in walk) for side in range(program.sides))
        self.assertEqual(length(program, log), len(walk))
        self.assertEqual(added(program, log), sums)
        self.assertEqual(points[-1], tuple(-part for part in sums))
        self.assertEqual(reach(program, log), (tuple(map(min, zip(*points))), tuple(map(max, zip(*points)))))
        self.assertEqual(ends_of(program, log), (stands[0][0], stands[-1][0]) if walk else None)
        for table in range(program.tables):
            self.assertEqual(visits(program, log, table), len([at for at, _ in stands if at == table]))
        self.assertEqual(written_out(program, log), walk)
        closed = len(walk) > 0 and stands[0][0] == stands[-1][0]
        self.assertIs(is_turn(program, "boxes", log), closed and sums == noughts)
        self.assertIs(is_turn(program, "corner", log), closed and max(sums) <= 0)

    def test_the_empty_log(self):
        for program in ALL_PROGRAMS:
            noughts = (0,) * program.sides
            self.assertEqual(length(program, ()), 0)
            self.assertEqual(added(program, ()), noughts)
            self.assertIsNone(ends_of(program, ()))
            self.assertEqual(reach(program, ()), (noughts, noughts))
            self.assertEqual([visits(program, (), table) for table in range(program.tables)], [0] * program.tables)
            self.assertEqual(written_out(program, ()), ())
            self.assertIs(is_turn(program, "boxes", ()), False)
            self.assertIs(is_turn(program, "corner", ()), False)

    def test_kinds_of_values(self):
        log = (1, ("times", 2, (2, 1)))
        self.assertIs(type(length(MAZE, log)), int)
        self.assertIs(type(visits(MAZE, log, 2)), int)
        for told in (added(MAZE, log), ends_of(MAZE, log), reach(MAZE, log), *reach(MAZE, log), written_out(MAZE, log)):
            self.assertIs(type(told), tuple)

    def test_ends_of(self):
        self.assertEqual(ends_of(MAZE, (3,)), (1, 2))
        self.assertEqual(ends_of(MAZE, (("times", 1, (("times", 1, (4, 1)), 3)),)), (2, 2))
        self.assertEqual(ends_of(MAZE, (1, ("times", HUGE, (2, 1)), ("times", 1, (3,)))), (0, 2))

    def test_rounds_of_very_many_times(self):
        log = (("times", HUGE, (1, 3, 4)), 0, ("times", HUGE + 1, (1, 2)), 1)
        self.assertEqual(length(MAZE, log), 3 * HUGE + 1 + 2 * (HUGE + 1) + 1)
        self.assertEqual(added(MAZE, log), (-3 * HUGE + 2 - (HUGE + 1), 9 * HUGE - 3 + 6 * (HUGE + 1) + 5))
        self.assertEqual(ends_of(MAZE, log), (0, 1))
        self.assertEqual([visits(MAZE, log, k) for k in range(3)], [2 * HUGE + 3, 2 * HUGE + 2, HUGE])
        # Each round of (0, 5), (4, 4), (-7, 0) goes 4 below where it began, and ends 3 above.
        self.assertEqual(reach(MAZE, log), ((-4, -15 * HUGE - 8), (4 * HUGE - 1, 0)))

    def test_rounds_drift_to_either_side(self):
        for many in (1, 2, 3, HUGE):
            log = (("times", many, (0, 0, 1)),)
            self.assertEqual(reach(BOTH, log), ((0,), (many + 1,)))
            log = (("times", many, (1, 0, 1)),)
            self.assertEqual(reach(BOTH, log), ((-many,), (0,)))
            log = (("times", many, (1, 0)),)
            self.assertEqual(reach(BOTH, log), ((-1,), (0,)))
            log = (0, 0, 0, ("times", many, (1, 1, 0)), ("times", many, (0, 0)))
            self.assertEqual(reach(BOTH, log), ((min(0, 2 - many),), (max(3, 3 + many),)))

    def test_very_many_times_and_thirty_deep(self):
        log = rounds_deep(30, HUGE)
        many = 10 ** 1800
        self.assertEqual(length(LINE, log), many)
        self.assertEqual(added(LINE, log), (many,))
        self.assertEqual(ends_of(LINE, log), (0, 0))
        self.assertEqual(reach(LINE, log), ((-many,), (0,)))
        self.assertEqual(reach(AHEAD, log), ((0,), (many,)))
        self.assertEqual(visits(LINE, log, 0), many + 1)
        self.assertIs(is_turn(LINE, "boxes", log), False)
        self.assertIs(is_turn(LINE, "corner", log), False)
        self.assertIs(is_turn(AHEAD, "boxes", log), False)
        self.assertIs(is_turn(AHEAD, "corner", log), True)
        self.assertIs(is_turn(ROUND, "boxes", rounds_deep(30, HUGE, (0, 1))), True)
        with self.assertRaises(TooMany):
            written_out(LINE, log)

    def test_thirty_deep_with_items_beside(self):
        log = (0,)
        for _ in range(30):
            log = (1, ("times", HUGE, log), 1)
        below = added(BOTH, log)[0]
        many = 10 ** 1800
        self.assertEqual(below, -many + 2 * sum(HUGE ** k for k in range(30)))
        self.assertEqual(length(BOTH, log), many + 2 * sum(HUGE ** k for k in range(30)))
        self.assertEqual(visits(BOTH, log, 0), length(BOTH, log) + 1)
        # It begins with 30 steps down, and stands highest ahead of 30 steps down at its end.
        self.assertEqual(reach(BOTH, log), ((-30,), (-below + 30,)))

    def test_logs_of_some_thousand_items(self):
        log = (("times", HUGE, (0, 1)), 0, 1) * 1400
        self.assertEqual(length(ROUND, log), 2800 * (HUGE + 1))
        self.assertEqual(added(ROUND, log), (0,))
        self.assertEqual(reach(ROUND, log), ((-1,), (0,)))
        self.assertEqual(visits(ROUND, log, 1), 1400 * (HUGE + 1))
        self.assertEqual(visits(ROUND, log, 0), 1400 * (HUGE + 1) + 1)
        self.assertEqual(ends_of(ROUND, log), (0, 0))
        self.assertIs(is_turn(ROUND, "boxes", log), True)
        self.assertEqual(length(LINE, (0,) * 9990), 9990)
        self.assertEqual(reach(LINE, (0,) * 9990), ((-9990,), (0,)))

    def test_great_programs(self):
        long = 10 ** 24
        log = (0, ("times", HUGE, (0,)), 1)
        self.assertEqual(length(GREAT, log), HUGE + 2)
        self.assertEqual(added(GREAT, log), (long, -long, (HUGE + 2) * long, 0))
        self.assertEqual(reach(GREAT, log), ((-long, 0, -(HUGE + 2) * long, 0), (0, long, 0, 0)))
        self.assertEqual(visits(GREAT, log, 0), HUGE + 2)
        self.assertEqual(visits(GREAT, log, 1), 1)
        self.assertEqual(visits(GREAT, log, 15), 0)
        self.assertEqual(visits(GREAT, (47,), 15), 1)
        self.assertEqual(ends_of(GREAT, (47,)), (10, 15))


class WrittenOut(unittest.TestCase):
    def too_many(self, program, log):
        with self.assertRaises(TooMany) as caught:
            written_out(program, log)
        self.assertEqual(caught.exception.most, 5000)

    def test_up_to_5000_readings(self):
        self.assertEqual(written_out(LINE, (("times", 5000, (0,)),)), (0,) * 5000)
        self.assertEqual(written_out(ROUND, (("times", 50, (("times", 49, (0, 1)), 0, 1)),)), (0, 1) * 2500)
        self.assertEqual(written_out(LINE, (0,) * 5000), (0,) * 5000)
        self.assertEqual(written_out(LINE, (("times", 4999, (0,)), 0)), (0,) * 5000)

    def test_one_reading_more(self):
        self.too_many(LINE, (("times", 5001, (0,)),))
        self.too_many(LINE, (0,) * 5001)
        self.too_many(LINE, (("times", 5000, (0,)), 0))
        self.too_many(ROUND, (("times", 50, (("times", 49, (0, 1)), 0, 1)), 0))
        self.too_many(LINE, (("times", HUGE, (0,)),))
        self.too_many(LINE, rounds_deep(30))

    def test_order_of_readings(self):
        self.assertEqual(written_out(MAZE, (1, ("times", 2, (2, ("times", 3, (0,)), 1)), 3)),
                         (1, 2, 0, 0, 0, 1, 2, 0, 0, 0, 1, 3))
        self.assertIs(is_walk(MAZE, written_out(MAZE, (("times", 1000, (1, 3, 4)),))), True)


class Turns(unittest.TestCase):
    def test_boxes(self):
        for log in ((0, 1), (1, 0), (("times", HUGE, (0, 1)),), (("times", 1, (0,)), 1), (0, ("times", 3, (1, 0)), 1)):
            self.assertIs(is_turn(ROUND, "boxes", log), True)
        for log in ((), (0,), (1,), (0, 1, 0), (0, 0), (1, 1)):
            self.assertIs(is_turn(ROUND, "boxes", log), False)

    def test_a_log_must_be_closed(self):
        still = Program(1, 2, ((0, 1, (0,)),))
        for world in ("boxes", "corner"):
            self.assertIs(is_turn(still, world, (0,)), False)
            self.assertIs(is_turn(backwards_too(still), world, (0, 1)), True)

    def test_corner(self):
        self.assertIs(is_turn(AHEAD, "corner", (0,)), True)
        self.assertIs(is_turn(AHEAD, "boxes", (0,)), False)
        self.assertIs(is_turn(LINE, "corner", (0,)), False)
        self.assertIs(is_turn(BOTH, "corner", (0, 1)), True)
        self.assertIs(is_turn(BOTH, "corner", (0, 1, 1)), False)
        self.assertIs(is_turn(BOTH, "corner", (0, 0, 1)), True)
        self.assertIs(is_turn(BOTH, "boxes", (0, 0, 1)), False)

    def test_each_side_counts(self):
        for step in product((-1, 0, 1), repeat=3):
            program = Program(3, 1, ((0, 0, step),))
            for log in ((0,), (("times", HUGE, (0,)),)):
                self.assertIs(is_turn(program, "boxes", log), step == (0, 0, 0))
                self.assertIs(is_turn(program, "corner", log), max(step) <= 0)

    def test_things_that_are_no_turns(self):
        for world in ("boxes", "corner"):
            for thing in [*odd_things(), [0, 1], (0, True), (False, 1), (("times", 0, (0, 1)),), rounds_deep(31, 2, (0, 1)),
                          (("times", 2, [0, 1]),), None]:
                self.assertIs(is_turn(ROUND, world, thing), False)

    def test_great_programs(self):
        both = beside(BOTH, BOTH)
        great = stretched(stretched(both, 10 ** 12), 10 ** 12)
        for world in ("boxes", "corner"):
            self.assertIs(is_turn(great, world, (("times", HUGE, (2, 3)),)), True)
            self.assertIs(is_turn(great, world, (("times", HUGE, (2, 3)), 3)), False)


def backwards_too(program):
    """The program with each reading the other way beside it, for readings from table 0 to 1."""
    return Program(program.sides, program.tables, program.readings + ((1, 0, (0,)),))


class Errors(unittest.TestCase):
    def test_no_log(self):
        wrong = [*odd_things(), [0, 1], (0, True), (0, 0), (1, 1), (2,), (-1,), (("times", 0, (0, 1)),), None,
                 rounds_deep(31, 2, (0, 1)), (("times", 2, (0,)),), tuples_deep(80), lists_deep(80), (0, 1) * 4000 + (1,)]
        for thing in wrong:
            if thing == ():
                continue
            for told in (length, added, ends_of, reach, written_out):
                with self.assertRaises(NoLog):
                    told(ROUND, thing)
            with self.assertRaises(NoLog):
                visits(ROUND, thing, 0)

    def test_no_table(self):
        for table in [*odd_things(), 2, -1, True, False, "0", (0,), None]:
            for log in ((0, 1), ()):
                with self.assertRaises(NoTable):
                    visits(ROUND, log, table)
        self.assertEqual(visits(FULL, (), 7), 0)
        for program, table in ((FULL, 8), (GREAT, 16), (LINE, 1)):
            with self.assertRaises(NoTable):
                visits(program, (), table)

    def test_no_world(self):
        for world in [*odd_things(), "box", "Boxes", "corners", "boxescorner", "", None, ("boxes",), ["corner"], b"corner"]:
            for thing in ((0, 1), None, [0]):
                with self.assertRaises(NoWorld):
                    is_turn(ROUND, world, thing)

    def test_order(self):
        for table in (None, 2, 0):
            with self.assertRaises(NoLog):
                visits(ROUND, (0, 0), table)
        with self.assertRaises(NoLog):
            written_out(ROUND, (0,) * 5001)
        with self.assertRaises(NoLog):
            written_out(ROUND, (("times", 5001, (0,)),))
        with self.assertRaises(NoTable):
            visits(LINE, (("times", HUGE, (0,)),), 1)

    def test_what_was_passed_stays_as_it_was(self):
        things = [[0, 1], [["times", 2, [0, 1]]], (("times", 2, [0, 1]),), {"a": [1]}]
        before = copy.deepcopy(things)
        for thing in things:
            for judged in (is_walk, is_log):
                self.assertIs(judged(ROUND, thing), False)
            self.assertIs(is_turn(ROUND, "boxes", thing), False)
            with self.assertRaises(NoLog):
                length(ROUND, thing)
        self.assertEqual(things, before)
        self.assertEqual(ROUND, Program(1, 2, ((0, 1, (1,)), (1, 0, (-1,)))))

    def test_equal_calls_give_equal_answers(self):
        log = (1, ("times", 4, (2, ("times", 3, (0,)), 1)), 3)
        for told in (length, added, ends_of, reach, written_out, is_log, is_walk):
            self.assertEqual(told(MAZE, log), told(MAZE, copy.deepcopy(log)))


if __name__ == "__main__":
    unittest.main()
