"""Timetables, and what they tell (6.1 to 6.3)."""

import copy
import random
import unittest
from itertools import product

from test_flows import BAD_WORLDS
from things import AHEAD, ALL_PROGRAMS, BOTH, DEEP, EMPTY, FULL, GREAT, LINE, ROUND, TWO, lists_deep, odd_things, tuples_deep
from turnsneeded.errors import NoBox, NoPoint, NoReading, NoTable, NoTimetable, NoWorld
from turnsneeded.levels import depths, works
from turnsneeded.programs import Program, beside, stretched
from turnsneeded.timetables import is_timetable, lag, spread, time_at, timetable
from waiting import LONG, WORLDS, climbing, great_programs, mixed, nest, some_programs

HUGE = 10 ** 70
DEEP_TIMES = ((0, (((2, 0), 0), ((0, 1), 0))), (0, (((2, 0), -1), ((0, -1), 0))))
NO_TIMES = [DEEP_TIMES[:1], DEEP_TIMES + DEEP_TIMES[:1], list(DEEP_TIMES), ((0, ()), (0, ())), None, (), "", DEEP_TIMES[::-1]]


def dot(one, other):
    return sum(a * b for a, b in zip(one, other, strict=True))


def later(times, reading):
    """By which place a reading is later and by how much, by the words of 6.1; None if it is not."""
    reader, read, step = reading
    (number, rows), (other, others) = times[reader], times[read]
    if number > other:
        return 0, number - other
    if number < other:
        return None
    for k in range(min(len(rows), len(others))):
        (a, r), (b, s) = rows[k], others[k]
        ahead = dot(a, step) + r - s
        if not (a == b and ahead == 0):
            return (k + 1, ahead) if a == b and ahead > 0 else None
    return None


def right_form(program, world, times):
    """Whether a thing has the form of a timetable, by its written form: only tuples and plain integers."""
    if type(times) is not tuple or len(times) != program.tables:
        return False
    for time in times:
        if type(time) is not tuple or len(time) != 2 or type(time[0]) is not int or type(time[1]) is not tuple or len(time[1]) > 8:
            return False
        for pair in time[1]:
            if type(pair) is not tuple or len(pair) != 2 or type(pair[0]) is not tuple or type(pair[1]) is not int:
                return False
            if len(pair[0]) != program.sides or any(type(one) is not int for one in pair[0]):
                return False
            if world == "corner" and min(pair[0]) < 0:
                return False
    return True


def times_shown(program, world, times):
    return right_form(program, world, times) and all(later(times, reading) is not None for reading in program.readings)


class Timetables(unittest.TestCase):
    def compared(self, program, world):
        told = timetable(program, world)
        if not works(program, world):
            self.assertIsNone(told)
        else:
            self.assertTrue(times_shown(program, world, told))
            self.assertIs(is_timetable(program, world, told), True)
            self.assertEqual(tuple(len(rows) for _, rows in told), depths(program, world))
        return told

    def test_known_ones(self):
        for program, boxes, corner in ((EMPTY, 1, 1), (LINE, 1, 1), (TWO, 1, 1), (DEEP, 1, 0), (ROUND, 0, 0), (AHEAD, 1, 0), (BOTH, 0, 0),
                                       (FULL, 1, 1), (GREAT, 1, 1)):
            self.assertIs(self.compared(program, "boxes") is not None, boxes == 1)
            self.assertIs(self.compared(program, "corner") is not None, corner == 1)
        chain = Program(1, 4, ((0, 1, (-9,)), (1, 2, (0,)), (3, 1, (5,))))
        for world in WORLDS:
            told = self.compared(chain, world)
            self.assertEqual([rows for _, rows in told], [()] * 4)
            self.assertTrue(told[0][0] > told[1][0] > told[2][0] and told[3][0] > told[1][0])

    def test_known_depths(self):
        chance = random.Random(1)
        for depth in (1, 2, 3, 4):
            for program in (nest(depth, 4), mixed(chance, nest(depth, 4)), beside(nest(depth, depth), nest(1, depth))):
                self.assertIsNotNone(self.compared(program, "boxes"))
            for world in WORLDS:
                told = self.compared(climbing(depth), world)
                self.assertEqual([len(rows) for _, rows in told], [depth] * len(told))

    def test_programs_by_chance(self):
        told = []
        for program in some_programs(2, 400):
            for world in WORLDS:
                told.append(self.compared(program, world) is None)
        self.assertGreater(min(told.count(True), told.count(False)), 150)

    def test_great_programs(self):
        for program in [*ALL_PROGRAMS, *great_programs(3)]:
            for world in WORLDS:
                self.compared(program, world)

    def test_a_timetable_for_the_corner_is_one_for_boxes(self):
        for program in [*some_programs(4, 100), climbing(3), climbing(4)]:
            told = timetable(program, "corner")
            if told is not None:
                self.assertIs(is_timetable(program, "boxes", told), True)
                self.assertTrue(all(one <= len(rows) for one, (_, rows) in zip(depths(program, "boxes"), told)))

    def test_the_fifth_fact(self):
        compared = 0
        for program in [*some_programs(5, 120, 3, 5), DEEP, TWO, nest(2, 2), climbing(2), nest(3, 3)]:
            told = timetable(program, "boxes")
            if told is not None and program.sides < 4:
                compared += 1
                for point in product(range(3), repeat=program.sides):
                    for reader, read, step in program.readings:
                        there = tuple(z - s for z, s in zip(point, step))
                        mine, its = time_at(program, told, reader, point), time_at(program, told, read, there)
                        unlike = [(a, b) for a, b in zip(mine, its) if a != b]
                        self.assertGreater(unlike[0][0], unlike[0][1])
        self.assertGreater(compared, 30)

    def test_no_world(self):
        for world in [*odd_things(), *BAD_WORLDS]:
            for program in (ROUND, EMPTY, FULL):
                with self.assertRaises(NoWorld):
                    timetable(program, world)
                for thing in (None, ((0, ()),), [0], DEEP_TIMES):
                    with self.assertRaises(NoWorld):
                        is_timetable(program, world, thing)

    def test_equal_calls_give_equal_answers(self):
        for program in some_programs(6, 40):
            twin = copy.deepcopy(program)
            for world in WORLDS:
                self.assertEqual(timetable(program, world), timetable(twin, world))
            self.assertEqual(program, twin)


class Judging(unittest.TestCase):
    def test_examples_e08_and_e09(self):
        self.assertIs(is_timetable(DEEP, "boxes", ((0, (((1, 0), 0), ((0, 1), 0))), (0, (((1, 0), -1), ((0, -1), 0))))), False)
        self.assertIs(is_timetable(DEEP, "boxes", ((0, (((2, 0), 0), ((0, 1), 0))), (0, (((2, 0), -1), ((0, -1), 0))))), True)

    def test_other_timetables(self):
        for times, right in ((((0, (((1,), 0),)),), True), (((-7, (((5,), HUGE),)),), True), (((0, ()),), False),
                             (((0, (((0,), 0),)),), False), (((0, (((-1,), 0),)),), False), (((5, (((0,), 9), ((1,), 0))),), True),
                             (((0, (((1,), 0), ((-1,), 0))),), True), (((0, (((-1,), 0), ((1,), 0))),), False)):
            self.assertIs(is_timetable(LINE, "boxes", times), right)
        two = Program(1, 2, ((0, 1, (0,)), (1, 0, (1,))))
        for times, right in ((((0, ()), (0, ())), False), (((1, ()), (0, ())), False), (((0, (((1,), 0),)), (0, (((1,), 0),))), False),
                             (((0, (((2,), 1),)), (0, (((2,), 0),))), True), (((0, (((2,), 2),)), (0, (((2,), 0),))), False),
                             (((0, (((2,), 2), ((1,), 0))), (0, (((2,), 0), ((1,), 0)))), True),
                             (((0, (((1,), 1), ((0,), 1))), (0, (((1,), 0), ((0,), 0)))), False),
                             (((0, (((1,), 1), ((0,), 0))), (0, (((1,), 0), ((0,), 1)))), True),
                             (((0, (((2,), 1), ((7,), 0))), (0, (((2,), 0),))), True),
                             (((0, (((2,), 1),)), (0, (((3,), 0),))), False)):
            self.assertIs(is_timetable(two, "boxes", times), right)
            self.assertIs(times_shown(two, "boxes", times), right)

    def test_eight_and_nine_rows(self):
        for many in range(12):
            times = ((0, (((0,), 4),) * many + (((1,), 0),)),)
            for world in WORLDS:
                self.assertIs(is_timetable(LINE, world, times), many < 8)
            times = ((0, (((1,), 0),) + (((0,), 4),) * many),)
            self.assertIs(is_timetable(LINE, "boxes", times), many < 8)
            self.assertIs(is_timetable(EMPTY, "boxes", ((0, (((0,), 4),) * many),)), many < 9)

    def test_integers_below_0_in_the_corner(self):
        for times, boxes, corner in ((((0, (((1, 1), -5),)),), True, True), (((0, (((1, 0), 0), ((0, 1), 0))),), True, True),
                                     (((-1, (((0, 1), 0), ((1, 0), 0))),), True, True), (((0, (((0, 1), 0), ((1, -1), 0))),), True, False),
                                     (((0, (((1, 1), -5), ((-1, 0), 0))),), True, False)):
            self.assertIs(is_timetable(TWO, "boxes", times), boxes)
            self.assertIs(is_timetable(TWO, "corner", times), corner)
        self.assertIs(is_timetable(DEEP, "corner", DEEP_TIMES), False)
        self.assertIs(is_timetable(AHEAD, "boxes", ((0, (((-1,), 0),)),)), True)
        self.assertIs(is_timetable(AHEAD, "corner", ((0, (((-1,), 0),)),)), False)

    def changes(self, times):
        """Timetables like this one with one integer changed, one row more, one less, or one put elsewhere."""
        for at, (number, rows) in enumerate(times):
            ahead, behind = times[:at], times[at + 1:]
            for more in (1, -1, HUGE, -HUGE):
                yield ahead + ((number + more, rows),) + behind
            yield ahead + behind
            yield ahead + ((number, rows + rows[-1:]),) + behind
            yield ahead + ((number, rows[:-1]),) + behind
            yield ahead + ((number, rows[::-1]),) + behind
            for k, (row, add) in enumerate(rows):
                for more in (1, -1, HUGE):
                    yield ahead + ((number, rows[:k] + ((row, add + more),) + rows[k + 1:]),) + behind
                    for side in range(len(row)):
                        moved = row[:side] + (row[side] + more,) + row[side + 1:]
                        yield ahead + ((number, rows[:k] + ((moved, add),) + rows[k + 1:]),) + behind
                yield ahead + ((number, rows[:k] + ((row + (0,), add),) + rows[k + 1:]),) + behind
                yield ahead + ((number, rows[:k] + ((row[:-1], add),) + rows[k + 1:]),) + behind

    def test_one_part_changed(self):
        right = wrong = 0
        for program in [*some_programs(7, 80, 3, 6), DEEP, nest(3, 3), climbing(3)]:
            for world in WORLDS:
                told = timetable(program, world)
                if told is not None:
                    for thing in self.changes(told):
                        self.assertIs(is_timetable(program, world, thing), times_shown(program, world, thing), thing)
                        right += times_shown(program, world, thing)
                        wrong += not times_shown(program, world, thing)
        self.assertGreater(right, 300)
        self.assertGreater(wrong, 500)

    def test_things_of_another_form(self):
        row = ((2, 0), 0)
        for thing in [*odd_things(), *NO_TIMES, tuples_deep(80), lists_deep(80), [DEEP_TIMES[0], DEEP_TIMES[1]], (DEEP_TIMES[0], None),
                      (DEEP_TIMES[0], list(DEEP_TIMES[1])), (DEEP_TIMES[0], (0, list(DEEP_TIMES[1][1]))), (DEEP_TIMES[0], (0,)),
                      (DEEP_TIMES[0], DEEP_TIMES[1] + ((),)), ((False, DEEP_TIMES[0][1]), DEEP_TIMES[1]),
                      (("0", DEEP_TIMES[0][1]), DEEP_TIMES[1]), dict(enumerate(DEEP_TIMES))]:
            for world in WORLDS:
                self.assertIs(is_timetable(DEEP, world, thing), False)
        for pair in (None, [], (), ((2, 0),), [(2, 0), 0], ([2, 0], 0), ((2, 0), None), ((2, 0), "0"), ((2, 0), False), ((2, False), 0),
                     ((2, None), 0), ((2,), 0), ((2, 0, 0), 0), (2, 0), ((2, 0), 0, 0), "20", (0, (2, 0)), ((2, 0), (0,)),
                     (tuples_deep(70), 0), ((2, tuples_deep(70)), 0), ((2, 0), lists_deep(70))):
            for k in (0, 1):
                rows = (pair, ((0, 1), 0)) if k == 0 else (row, pair)
                self.assertIs(is_timetable(DEEP, "boxes", ((0, rows), DEEP_TIMES[1])), False)
        self.assertIs(is_timetable(EMPTY, "boxes", ((True, ()),)), False)
        self.assertIs(is_timetable(EMPTY, "boxes", ((1, ()),)), True)

    def test_odd_things_in_every_place(self):
        for thing in odd_things():
            if type(thing) is not int:
                self.assertIs(is_timetable(EMPTY, "boxes", ((thing, ()),)), False)
                self.assertIs(is_timetable(EMPTY, "boxes", ((0, (((1,), thing),)),)), False)
                self.assertIs(is_timetable(EMPTY, "boxes", ((0, (((thing,), 0),)),)), False)
            if thing != ():
                self.assertIs(is_timetable(EMPTY, "boxes", ((0, thing),)), False)
            self.assertIs(is_timetable(EMPTY, "boxes", ((0, (thing,)),)), False)
            self.assertIs(is_timetable(EMPTY, "boxes", (thing,)), False)


class Told(unittest.TestCase):
    def test_time_at(self):
        self.assertEqual(time_at(DEEP, DEEP_TIMES, 0, (3, 5)), (0, 6, 5))
        self.assertEqual(time_at(DEEP, DEEP_TIMES, 1, (3, 5)), (0, 5, -5))
        self.assertEqual(time_at(DEEP, DEEP_TIMES, 1, (-3, 0)), (0, -7, 0))
        self.assertEqual(time_at(EMPTY, ((9, ()),), 0, (-4,)), (9,))
        self.assertEqual(time_at(LINE, ((-2, (((HUGE,), 7), ((0,), -1))),), 0, (10 ** 79,)), (-2, HUGE * 10 ** 79 + 7, -1))

    def test_lag(self):
        self.assertEqual([lag(DEEP, DEEP_TIMES, k) for k in range(4)], [(2, 1), (1, 1), (1, 1), (2, 1)])
        self.assertEqual(lag(LINE, ((0, (((0,), 5), ((HUGE,), 7))),), 0), (2, HUGE))
        apart = Program(1, 2, ((0, 1, (-9,)), (1, 1, (3,))))
        self.assertEqual([lag(apart, ((4, ()), (-3, (((2,), 0),))), k) for k in (0, 1)], [(0, 7), (1, 6)])
        self.assertEqual(lag(apart, ((HUGE, ()), (-HUGE, (((2,), 0),))), 0), (0, 2 * HUGE))

    def test_spread(self):
        self.assertEqual(spread(DEEP, DEEP_TIMES, 0, (4, 6)), (1 + 2 * 3) * (1 + 5))
        self.assertEqual(spread(DEEP, DEEP_TIMES, 1, (4, 6)), 42)
        self.assertEqual(spread(DEEP, DEEP_TIMES, 1, (1, 1)), 1)
        self.assertEqual(spread(EMPTY, ((9, ()),), 0, (10 ** 79,)), 1)
        self.assertEqual(spread(LINE, ((0, (((1,), 0), ((-HUGE,), 0))),), 0, (HUGE,)), HUGE * (1 + HUGE * (HUGE - 1)))
        self.assertEqual(spread(TWO, ((0, (((1, 2), 9), ((-3, 4), 0), ((0, 0), 1))),), 0, (5, 7)), (1 + 4 + 12) * (1 + 12 + 24))

    def test_of_timetables_that_are_told(self):
        chance = random.Random(8)
        for program in [*some_programs(9, 150), *ALL_PROGRAMS, nest(4, 4), climbing(4), stretched(nest(3, 4), LONG)]:
            for world in WORLDS:
                told = timetable(program, world)
                if told is not None:
                    self.of_one(chance, program, told)

    def of_one(self, chance, program, told):
        for number, reading in enumerate(program.readings):
            self.assertEqual(lag(program, told, number), later(told, reading))
            self.assertIs(type(lag(program, told, number)), tuple)
        for table in range(program.tables):
            point = tuple(chance.randint(-50, 50) for _ in range(program.sides))
            box = tuple(chance.randint(1, 50) for _ in range(program.sides))
            number, rows = told[table]
            self.assertEqual(time_at(program, told, table, point), (number, *(dot(row, point) + add for row, add in rows)))
            many = 1
            for row, _ in rows:
                many *= 1 + dot(map(abs, row), [one - 1 for one in box])
            self.assertEqual(spread(program, told, table, box), many)

    def test_so_many_unlike_times_at_most(self):
        for program, times, box in ((DEEP, DEEP_TIMES, (3, 4)), (TWO, ((0, (((1, 2), 9),)),), (5, 3)), (LINE, ((1, (((3,), 0),)),), (6,))):
            for table in range(program.tables):
                points = product(*map(range, box))
                self.assertLessEqual(len({time_at(program, times, table, point) for point in points}), spread(program, times, table, box))

    def test_no_timetable(self):
        for thing in [*odd_things(), *NO_TIMES]:
            for call, more in ((time_at, (0, (0, 0))), (time_at, (None, None)), (lag, (0,)), (lag, (None,)), (spread, (0, (1, 1))),
                               (spread, (None, None))):
                with self.assertRaises(NoTimetable):
                    call(DEEP, thing, *more)
        for call, more in ((time_at, (0, (0,))), (lag, (0,)), (spread, (0, (1,)))):
            with self.assertRaises(NoTimetable):
                call(ROUND, ((0, (((1,), 0),)), (0, (((1,), 0),))), *more)

    def test_no_table(self):
        for table in [*odd_things(), 2, -1, True, False, "0", (0,), None]:
            for call, last in ((time_at, (0, 0)), (time_at, None), (spread, (1, 1)), (spread, None)):
                with self.assertRaises(NoTable):
                    call(DEEP, DEEP_TIMES, table, last)

    def test_no_point(self):
        for point in [*odd_things(), (0,), (0, 0, 0), [0, 0], (0, None), (0, "0"), (True, 0), (0, False), "00", (0, (0,)), {0: 0, 1: 0}]:
            with self.assertRaises(NoPoint):
                time_at(DEEP, DEEP_TIMES, 1, point)

    def test_no_reading(self):
        for number in [*odd_things(), 4, -1, True, False, "0", (0,), None, (0, 0, (0, 1))]:
            with self.assertRaises(NoReading):
                lag(DEEP, DEEP_TIMES, number)
        with self.assertRaises(NoReading):
            lag(EMPTY, ((0, ()),), 0)

    def test_no_box(self):
        for box in [*odd_things(), (1,), (1, 1, 1), [1, 1], (0, 1), (1, 0), (-1, 5), (1, None), (1, "1"), (True, 1), (1, True), "11",
                    (1, (1,)), {0: 1, 1: 1}]:
            with self.assertRaises(NoBox):
                spread(DEEP, DEEP_TIMES, 1, box)

    def test_what_was_passed_stays_as_it_was(self):
        things = [[[0, []]], ([0, [[1], 0]],), {"a": [0]}]
        before = copy.deepcopy(things)
        for thing in things:
            self.assertIs(is_timetable(LINE, "boxes", thing), False)
            with self.assertRaises(NoTimetable):
                lag(LINE, thing, 0)
        self.assertEqual(things, before)


if __name__ == "__main__":
    unittest.main()
