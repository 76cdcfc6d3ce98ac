"""What must go (10.1)."""

import copy
import random
import unittest
from itertools import combinations

from cells import HUGE
from test_flows import BAD_WORLDS
from things import AHEAD, BOTH, DEEP, EMPTY, FULL, GREAT, LINE, ROUND, TWO, odd_things
from turnsneeded.errors import NoNumber, NoWorld, TooMany
from turnsneeded.going import breakers, shallower
from turnsneeded.levels import depths, works
from turnsneeded.programs import Program, alone, beside, program_of, stretched, without
from waiting import LONG, WORLDS, led_program, nest, some_program, some_programs


def lots_by_hand(program, is_right):
    """All lots, one behind another: those without which it is right, but without no part of which it is."""
    numbers = range(len(program.readings))
    lots = [lot for size in range(len(numbers) + 1) for lot in combinations(numbers, size)]
    right = {lot: is_right(without(program, lot)) for lot in lots}
    return sorted(lot for lot in lots if right[lot] and not any(
        right[part] for size in range(len(lot)) for part in combinations(lot, size)))


def shallow(most):
    def is_right(program):
        told = depths(program, "boxes")
        return told is not None and all(depth <= most for depth in told)
    return is_right


class Going(unittest.TestCase):
    def compared(self, program):
        counts = []
        for world in WORLDS:
            told = breakers(program, world)
            self.assertIs(type(told), list)
            self.assertEqual(told, lots_by_hand(program, lambda rest: works(rest, world)))
            self.assertEqual(told == [()], works(program, world))
            counts.append(len(told))
        for most in range(5):
            told = shallower(program, most)
            self.assertIs(type(told), list)
            self.assertEqual(told, lots_by_hand(program, shallow(most)))
        return counts

    def test_example_3(self):
        self.assertEqual(breakers(ROUND, "boxes"), [(0,), (1,)])

    def test_known_ones(self):
        for program in (EMPTY, LINE, TWO, DEEP, ROUND, AHEAD, BOTH):
            self.compared(program)
        for program in (EMPTY, LINE, TWO, DEEP, AHEAD):
            self.assertEqual(breakers(program, "boxes"), [()])
        self.assertEqual(breakers(AHEAD, "corner"), [(0,)])
        self.assertEqual(breakers(BOTH, "boxes"), [(0,), (1,)])
        self.assertEqual(breakers(BOTH, "corner"), [(0,)])
        self.assertEqual(shallower(DEEP, 2), [()])
        self.assertEqual(shallower(DEEP, 1), [(0,), (1,), (2,), (3,)])
        self.assertEqual(shallower(DEEP, 0), [(0, 1, 3), (0, 2, 3)])
        self.assertEqual(shallower(ROUND, 0), [(0,), (1,)])

    def test_lots_of_unlike_sizes_stand_in_the_order_of_tuples(self):
        program = Program(1, 1, ((0, 0, (-2,)), (0, 0, (-1,)), (0, 0, (1,))))
        self.assertEqual(breakers(program, "boxes"), [(0, 1), (2,)])
        self.assertEqual(breakers(program, "corner"), [(0, 1)])
        self.assertEqual(shallower(program, 1), [(0, 1), (2,)])
        self.assertEqual(shallower(program, 0), [(0, 1, 2)])
        self.compared(program)

    def test_programs_by_chance(self):
        most = 0
        for program in some_programs(1, 60, 3, 6):
            most = max([most, *self.compared(program)])
        self.assertGreater(most, 3)

    def test_ten_readings(self):
        chance = random.Random(2)
        compared = 0
        while compared < 4:
            program = (some_program, led_program)[compared % 2](chance, 1 + compared, 3, 10, 1)
            if len(program.readings) == 10:
                self.compared(program)
                compared += 1

    def test_great_programs_of_ten_readings(self):
        deep = nest(4, 4)
        for program in (stretched(alone(GREAT, tuple(range(0, 40, 4))), LONG), alone(beside(deep, deep), tuple(range(10)))):
            self.assertEqual(len(program.readings), 10)
            self.assertEqual(breakers(program, "boxes"), [()])
            told = shallower(program, 0)
            for lot in told:
                self.assertEqual(max(depths(without(program, lot), "boxes")), 0)

    def test_too_many_readings(self):
        ten = Program(1, 1, tuple((0, 0, (k,)) for k in range(1, 11)))
        eleven = Program(1, 1, tuple((0, 0, (k,)) for k in range(1, 12)))
        for world in WORLDS:
            self.assertEqual(breakers(ten, world), [()])
        self.assertEqual(shallower(ten, 0), [tuple(range(10))])
        for program in (eleven, FULL, GREAT, program_of(1, 1, eleven.readings)):
            for call, word in ((breakers, "boxes"), (breakers, "corner"), (shallower, 0), (shallower, 4)):
                with self.assertRaises(TooMany) as caught:
                    call(program, word)
                self.assertEqual(caught.exception.most, 10)

    def test_errors_come_ahead_of_too_many(self):
        for program in (EMPTY, ROUND, FULL):
            for world in [*BAD_WORLDS, *odd_things()]:
                with self.assertRaises(NoWorld):
                    breakers(program, world)
            for most in [-1, 5, HUGE, True, False, None, "1", *odd_things()]:
                with self.assertRaises(NoNumber):
                    shallower(program, most)

    def test_lists_are_new_and_what_is_passed_stays(self):
        program = copy.deepcopy(ROUND)
        breakers(program, "boxes").clear()
        shallower(program, 0).clear()
        self.assertEqual((breakers(program, "boxes"), shallower(program, 0)), ([(0,), (1,)], [(0,), (1,)]))
        self.assertEqual(program, ROUND)


if __name__ == "__main__":
    unittest.main()
