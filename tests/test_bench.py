"""Benches (11.1)."""

import copy
import random
import unittest

from test_flows import BAD_WORLDS
from things import LINE, ROUND, odd_things
from turnsneeded.bench import Bench
from turnsneeded.errors import BadProgram, Full, NoNames, NoReading, NotThere, NothingDone, NoWorld
from turnsneeded.levels import depths, works
from turnsneeded.programs import Program, also, renamed
from turnsneeded.timetables import timetable
from turnsneeded.turns import turn
from waiting import LONG, WORLDS

BAD_READINGS = [(0, 0), (0, 0, (1, 1), 0), (2, 0, (0, 0)), (0, 2, (0, 0)), (0, 0, (1,)), (0, 0, (1, 2, 3)), (0, 0, [1, 2]), [0, 0, (1, 2)],
                (False, 0, (1, 2)), (0, True, (1, 2)), (0, 0, (1, True)), (0, 0, (LONG + 1, 0)), (0, 0, (0, -LONG - 1)), (-1, 0, (0, 0)),
                (0, 0, 1), (0, 0, "12"), "001", *odd_things()]
BAD_NAMES = [(0,), (0, 1, 2), (0, 0), (1, 2), [0, 1], (False, True), (0, True), (0, "1"), "01", *odd_things()]


class OwnError(Exception):
    """An error of a function that is passed."""


def full_bench():
    bench = Bench(2, 2)
    for k in range(24):
        bench.add((0, 1, (k, 0)))
    return bench


def state(bench):
    """All that can be seen of a bench, taken back to its beginning on a copy."""
    other = bench.copy()
    programs = [other.program()]
    while other.deeds() > 0:
        other.back()
        programs.append(other.program())
    return bench.program(), bench.deeds(), programs


class Leading(unittest.TestCase):
    def told(self, bench, program):
        """All that a bench tells is told of this program."""
        self.assertEqual(bench.program(), program)
        self.assertIs(type(bench.program()), Program)
        for world in WORLDS:
            self.assertIs(bench.works(world), works(program, world))
            self.assertEqual(bench.depths(world), depths(program, world))
            self.assertEqual(bench.turn(world), turn(program, world))
            self.assertEqual(bench.timetable(world), timetable(program, world))

    def test_a_bench_begins_without_readings(self):
        for sides in (1, 4):
            for tables in (1, 8):
                self.told(Bench(sides, tables), Program(sides, tables, ()))
                self.assertEqual(Bench(sides, tables).deeds(), 0)

    def test_bad_programs(self):
        for sides in [0, 5, *odd_things()]:
            for tables in (1, None):
                with self.assertRaises(BadProgram) as caught:
                    Bench(sides, tables)
                self.assertEqual(caught.exception.part, "sides")
        for tables in [0, 9, *odd_things()]:
            with self.assertRaises(BadProgram) as caught:
                Bench(1, tables)
            self.assertEqual(caught.exception.part, "tables")

    def test_each_change_returns_none_and_is_there(self):
        bench = Bench(1, 2)
        self.assertIsNone(bench.add((1, 0, (-1,))))
        self.assertIsNone(bench.add((0, 1, (1,))))
        self.told(bench, ROUND)
        self.assertIsNone(bench.drop((1, 0, (-1,))))
        self.told(bench, Program(1, 2, ((0, 1, (1,)),)))
        self.assertIsNone(bench.called((1, 0)))
        self.told(bench, Program(1, 2, ((1, 0, (1,)),)))
        self.assertIsNone(bench.back())
        self.assertIsNone(bench.back())
        self.told(bench, ROUND)
        self.assertEqual(bench.deeds(), 2)

    def test_a_reading_that_is_there_is_added_again(self):
        bench = Bench(1, 1)
        for many in (1, 2, 3):
            bench.add((0, 0, (1,)))
            self.assertEqual((bench.program(), bench.deeds()), (LINE, many))
        bench.drop((0, 0, (1,)))
        with self.assertRaises(NotThere):
            bench.drop((0, 0, (1,)))
        for _ in range(3):
            bench.back()
            self.assertEqual(bench.program(), LINE)
        bench.back()
        self.assertEqual(bench.program(), Program(1, 1, ()))

    def test_just_24_readings(self):
        bench = full_bench()
        self.assertEqual(len(bench.program().readings), 24)
        bench.add((0, 1, (7, 0)))
        self.assertEqual((len(bench.program().readings), bench.deeds()), (24, 25))
        for reading in ((0, 1, (24, 0)), (1, 0, (0, 0)), (0, 0, (LONG, -LONG))):
            with self.assertRaises(Full):
                bench.add(reading)
        self.assertEqual((len(bench.program().readings), bench.deeds()), (24, 25))
        bench.drop((0, 1, (7, 0)))
        bench.add((0, 1, (24, 0)))
        self.assertEqual(len(bench.program().readings), 24)

    def test_lives_by_chance(self):
        chance = random.Random(1)
        for _ in range(60):
            sides, tables = chance.randint(1, 4), chance.randint(1, 4)
            bench, past = Bench(sides, tables), [Program(sides, tables, ())]
            for _ in range(chance.randint(5, 60)):
                now = past[-1]
                word = chance.randrange(5)
                if word < 2:
                    reading = (chance.randrange(tables), chance.randrange(tables), tuple(chance.randint(-1, 1) for _ in range(sides)))
                    bench.add(reading)
                    past.append(also(now, reading))
                elif word == 2 and now.readings:
                    reading = chance.choice(now.readings)
                    bench.drop(reading)
                    past.append(Program(sides, tables, tuple(one for one in now.readings if one != reading)))
                elif word == 3:
                    names = tuple(chance.sample(range(tables), tables))
                    bench.called(names)
                    past.append(renamed(now, names))
                elif len(past) > 1:
                    bench.back()
                    past.pop()
                self.assertEqual((bench.program(), bench.deeds()), (past[-1], len(past) - 1))
            self.told(bench, past[-1])
            while len(past) > 1:
                past.pop()
                bench.back()
                self.assertEqual((bench.program(), bench.deeds()), (past[-1], len(past) - 1))

    def test_changes_that_changed_nothing_are_taken_back(self):
        bench = Bench(1, 2)
        bench.called((0, 1))
        bench.add((0, 1, (1,)))
        bench.add((0, 1, (1,)))
        bench.called((0, 1))
        self.assertEqual(bench.deeds(), 4)
        for many in (3, 2):
            bench.back()
            self.assertEqual((bench.deeds(), len(bench.program().readings)), (many, 1))
        bench.back()
        bench.back()
        self.assertEqual((bench.deeds(), bench.program()), (0, Program(1, 2, ())))
        with self.assertRaises(NothingDone):
            bench.back()
        bench.add((0, 0, (1,)))
        self.assertEqual(bench.deeds(), 1)

    def test_programs_and_benches_are_the_callers_own(self):
        bench = Bench(1, 1)
        held = bench.program()
        bench.add((0, 0, (1,)))
        first = bench.program()
        bench.drop((0, 0, (1,)))
        self.assertEqual((held, first, bench.program()), (Program(1, 1, ()), LINE, Program(1, 1, ())))
        names = (0,)
        bench.called(names)
        self.assertEqual(names, (0,))

    def test_what_is_done_to_a_program_that_was_told_is_not_done_to_the_bench(self):
        bench = full_bench()
        for told in (bench.program(), bench.copy().program(), bench.trying(lambda other: other.program())):
            told.sides, told.tables, told.readings = 1, 1, ()
            self.assertEqual(state(bench), state(full_bench()))

    def test_a_bench_is_equal_to_nothing_else(self):
        bench = Bench(1, 1)
        for thing in [*odd_things(), bench.program(), None]:
            self.assertFalse(bench == thing)
            self.assertTrue(bench != thing)


class Errors(unittest.TestCase):
    def unchanged(self, bench, error, call, *passed):
        held = state(bench)
        with self.assertRaises(error) as caught:
            call(*passed)
        self.assertIs(type(caught.exception), error)
        self.assertEqual(state(bench), held)

    def test_no_reading_comes_ahead_of_the_others(self):
        for bench in (Bench(2, 2), full_bench()):
            for reading in BAD_READINGS:
                self.unchanged(bench, NoReading, bench.add, reading)
                self.unchanged(bench, NoReading, bench.drop, reading)

    def test_not_there_and_full(self):
        bench = full_bench()
        for reading in ((0, 1, (24, 0)), (1, 1, (0, 0)), (0, 1, (0, 1))):
            self.unchanged(bench, NotThere, bench.drop, reading)
            self.unchanged(bench, Full, bench.add, reading)

    def test_no_names(self):
        for bench in (Bench(2, 2), full_bench()):
            for names in BAD_NAMES:
                self.unchanged(bench, NoNames, bench.called, names)

    def test_no_world(self):
        bench = full_bench()
        for world in [*BAD_WORLDS, *odd_things()]:
            for call in (bench.works, bench.depths, bench.turn, bench.timetable):
                self.unchanged(bench, NoWorld, call, world)

    def test_nothing_done(self):
        bench = Bench(2, 2)
        self.unchanged(bench, NothingDone, bench.back)
        bench.add((0, 0, (0, 1)))
        bench.back()
        self.unchanged(bench, NothingDone, bench.back)


class Copies(unittest.TestCase):
    def test_copies_go_on_apart_and_are_taken_back_likewise(self):
        bench = Bench(1, 1)
        bench.add((0, 0, (1,)))
        other = bench.copy()
        self.assertIs(type(other), Bench)
        bench.add((0, 0, (2,)))
        other.add((0, 0, (3,)))
        other.add((0, 0, (4,)))
        self.assertEqual([step for _, _, step in bench.program().readings], [(1,), (2,)])
        self.assertEqual([step for _, _, step in other.program().readings], [(1,), (3,), (4,)])
        self.assertEqual((bench.deeds(), other.deeds()), (2, 3))
        for _ in range(3):
            other.back()
        with self.assertRaises(NothingDone):
            other.back()
        self.assertEqual((bench.deeds(), other.deeds(), other.program()), (2, 0, Program(1, 1, ())))
        bench.back()
        self.assertEqual(bench.program(), LINE)

    def test_copies_of_copies(self):
        bench = full_bench()
        again = bench.copy().copy()
        self.assertEqual(state(again), state(bench))
        again.called((1, 0))
        self.assertNotEqual(state(again), state(bench))
        self.assertEqual(state(bench), state(full_bench()))


class Trying(unittest.TestCase):
    def test_what_a_function_returns_is_returned(self):
        bench = full_bench()
        held = state(bench)
        thing = object()
        self.assertIs(bench.trying(lambda other: thing), thing)
        self.assertIsNone(bench.trying(lambda other: None))
        self.assertIs(bench.trying(lambda other: other), bench)
        self.assertEqual(bench.trying(lambda other: (other.drop((0, 1, (3, 0))), len(other.program().readings))[1]), 23)
        self.assertEqual(state(bench), held)

    def test_all_is_put_back_whatever_was_done(self):
        def adds(bench):
            bench.add((0, 0, (1, 0)))
            bench.add((1, 1, (0, 1)))
            return bench.deeds()

        def drops(bench):
            bench.drop(bench.program().readings[0])
            return bench.deeds()

        def calls(bench):
            bench.called((1, 0))
            return bench.program().readings[0][:2]

        def takes_back(bench):
            while bench.deeds() > 0:
                bench.back()
            bench.add((1, 1, (5, 5)))
            return len(bench.program().readings)

        def tries(bench):
            inner = bench.trying(takes_back)
            return inner, bench.trying(adds), bench.deeds()

        def copies(bench):
            other = bench.copy()
            other.back()
            bench.back()
            bench.back()
            return other.deeds()

        bench = Bench(2, 2)
        for step in ((0, 0), (0, 1), (0, 2)):
            bench.add((0, 1, step))
        held = state(bench)
        for action, wanted in ((adds, 5), (drops, 4), (calls, (1, 0)), (takes_back, 1), (tries, (1, 5, 3)), (copies, 2)):
            self.assertEqual(bench.trying(action), wanted)
            self.assertEqual(state(bench), held)
            bench.back()
            bench.add((0, 1, (0, 2)))
            self.assertEqual(state(bench), held)

    def test_errors_go_on_and_all_is_put_back(self):
        def own(bench):
            bench.add((0, 1, (1, 0)))
            bench.back()
            bench.back()
            raise OwnError("x")

        def wrong(bench):
            bench.called((1, 0))
            bench.add(None)

        bench = full_bench()
        held = state(bench)
        for action, error in ((own, OwnError), (wrong, NoReading), (lambda other: other.add((1, 1, (0, 0))), Full)):
            with self.assertRaises(error):
                bench.trying(action)
            self.assertEqual(state(bench), held)

    def test_a_copy_made_on_the_way_goes_on(self):
        def action(bench):
            bench.add((0, 0, (0, 1)))
            return bench.copy()

        bench = Bench(2, 2)
        other = bench.trying(action)
        self.assertEqual((bench.deeds(), other.deeds()), (0, 1))
        self.assertEqual(other.program(), Program(2, 2, ((0, 0, (0, 1)),)))
        self.assertEqual(copy.deepcopy(other).program(), other.program())


if __name__ == "__main__":
    unittest.main()
