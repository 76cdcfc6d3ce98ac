"""Turns (5.3)."""

import copy
import random
import unittest

from test_flows import BAD_WORLDS
from things import AHEAD, ALL_PROGRAMS, BOTH, DEEP, EMPTY, FULL, GREAT, LINE, ROUND, TWO, odd_things
from turnsneeded.errors import NoNumber, NoWorld
from turnsneeded.levels import works
from turnsneeded.logs import added, ends_of, is_turn, length
from turnsneeded.programs import Program, also, beside, program_of, stretched
from turnsneeded.texts import log_text
from turnsneeded.turns import shortest_turn, turn
from waiting import LONG, WORLDS, climbing, great_programs, mixed, nest, some_program, some_programs

HUGE = 10 ** 60


def is_turn_shown(program, world, log):
    """Whether a log is a turn, by its readings counted round by round."""
    def counted(items, times, counts):
        for item in items:
            if isinstance(item, tuple):
                counted(item[2], times * item[1], counts)
            else:
                counts[item] = counts.get(item, 0) + times
        return counts

    counts = counted(log, 1, {})
    sums = [sum(many * program.readings[k][2][side] for k, many in counts.items()) for side in range(program.sides)]
    begin, end = ends_of(program, log)
    return begin == end and all(one == 0 or (world == "corner" and one < 0) for one in sums)


class Turns(unittest.TestCase):
    def compared(self, program, world):
        told = turn(program, world)
        if works(program, world):
            self.assertIsNone(told)
        else:
            self.assertIs(type(told), tuple)
            self.assertIs(is_turn(program, world, told), True)
            self.assertTrue(is_turn_shown(program, world, told))
        self.assertEqual(told, turn(program, world))
        return told

    def test_known_ones(self):
        for program in (EMPTY, LINE, TWO, FULL, GREAT):
            for world in WORLDS:
                self.assertIsNone(turn(program, world))
        for program in (DEEP, AHEAD, nest(4, 4), climbing(3)):
            self.assertIsNone(self.compared(program, "boxes"))
        self.assertIsNone(self.compared(climbing(4), "corner"))
        for program in (ROUND, BOTH):
            for world in WORLDS:
                self.assertIsNotNone(self.compared(program, world))
        self.assertIsNotNone(self.compared(AHEAD, "corner"))
        self.assertIsNotNone(self.compared(DEEP, "corner"))
        still = Program(2, 1, ((0, 0, (0, 0)), (0, 0, (0, 1))))
        for world in WORLDS:
            self.assertIsNotNone(self.compared(still, world))

    def test_rounds_of_very_many_times(self):
        for far in (LONG - 1, 10 ** 30, HUGE):
            program = program_of(1, 1, [(0, 0, (-far,)), (0, 0, (far + 1,))])
            for world in WORLDS:
                told = self.compared(program, world)
                self.assertGreaterEqual(length(program, told), 1 if world == "corner" else 2 * far + 1)
        wide = Program(3, 1, ((0, 0, (-LONG, 1, 0)), (0, 0, (0, -LONG, 1)), (0, 0, (1, 0, 1 - LONG)), (0, 0, (LONG, LONG, LONG - 1))))
        for world in WORLDS:
            self.compared(wide, world)
        self.assertGreater(length(wide, turn(wide, "boxes")), LONG ** 2)

    def test_great_rounds_through_several_tables(self):
        far = LONG - 3
        program = Program(1, 4, ((0, 0, (far,)), (0, 1, (0,)), (1, 2, (5,)), (2, 2, (-LONG,)), (2, 3, (0,)), (3, 0, (1,)), (3, 3, (2,))))
        for world in WORLDS:
            self.assertIsNotNone(self.compared(program, world))
            long = stretched(program, LONG)
            self.assertIsNotNone(self.compared(long, world))
        told = turn(program, "boxes")
        self.assertGreater(length(program, told), LONG)
        self.assertEqual(added(program, told), (0,))

    def test_readings_led_through_several_tables(self):
        for many in (2, 3, 8):
            ring = Program(1, many, tuple(sorted((k, (k + 1) % many, (1 - many if k == 0 else 1,)) for k in range(many))))
            self.assertEqual(len(self.compared(ring, "boxes")), many)
            there_and_back = [(k, k + 1, (k,)) for k in range(many - 1)] + [(k + 1, k, (-k - 1,)) for k in range(many - 1)]
            loops = [(0, 0, (7,)), (many - 1, many - 1, (-4,))]
            self.assertIsNotNone(self.compared(program_of(1, many, there_and_back + loops), "boxes"))
        tree = Program(2, 7, tuple(sorted([(k, 2 * k + 1, (0, 1)) for k in range(3)] + [(k, 2 * k + 2, (1, 0)) for k in range(3)]
                                          + [(k, 0, (-2, 1)) for k in (3, 4)] + [(k, 0, (1, -3)) for k in (5, 6)])))
        for world in WORLDS:
            self.compared(tree, world)

    def test_a_turn_in_an_inner_level(self):
        for depth in (2, 3, 4):
            program = also(nest(depth, 4), (0, 0, (-1, 0, 0, 0)))
            self.assertIs(works(program, "boxes"), False)
            for world in WORLDS:
                self.assertIsNotNone(self.compared(program, world))
                self.assertIsNotNone(self.compared(beside(nest(1, 4), program), world))

    def test_the_fourth_fact(self):
        told = []
        for program in some_programs(1, 400):
            for world in WORLDS:
                told.append(self.compared(program, world) is None)
        self.assertGreater(min(told.count(True), told.count(False)), 150)

    def test_what_turns_for_boxes_turns_for_the_corner(self):
        for program in some_programs(2, 150):
            told = turn(program, "boxes")
            if told is not None:
                self.assertIs(is_turn(program, "corner", told), True)
                self.assertIsNotNone(turn(program, "corner"))

    def test_great_programs(self):
        chance = random.Random(3)
        for program in [*ALL_PROGRAMS, *great_programs(4)]:
            for world in WORLDS:
                told = self.compared(program, world)
                if told is not None:
                    self.assertIs(type(log_text(program, told)), str)
                self.compared(mixed(chance, program), world)

    def test_no_world(self):
        for world in [*odd_things(), *BAD_WORLDS]:
            for program in (ROUND, EMPTY, FULL):
                with self.assertRaises(NoWorld):
                    turn(program, world)

    def test_what_was_passed_stays_as_it_was(self):
        for program in some_programs(5, 30):
            before = copy.deepcopy(program)
            for world in WORLDS:
                turn(program, world)
            shortest_turn(program, 2)
            self.assertEqual(program, before)


def least_turn_by_walks(program, most):
    """The least of the shortest turns for boxes, of all walks one behind another."""
    noughts = (0,) * program.sides
    walks = [((k,), x, y, step) for k, (x, y, step) in enumerate(program.readings)]
    for _ in range(most):
        turns = sorted(walk for walk, begin, end, total in walks if begin == end and total == noughts)
        if turns:
            return turns[0]
        walks = [(walk + (k,), begin, y, tuple(a + b for a, b in zip(total, step))) for walk, begin, end, total in walks
                 for k, (x, y, step) in enumerate(program.readings) if x == end]
    return None


class ShortestTurns(unittest.TestCase):
    def test_known_ones(self):
        for program, most, told in (
                (ROUND, 4, (0, 1)), (ROUND, 2, (0, 1)), (ROUND, 1, None), (ROUND, 6, (0, 1)), (BOTH, 2, (0, 1)), (BOTH, 1, None),
                (LINE, 6, None), (AHEAD, 6, None), (EMPTY, 6, None), (DEEP, 6, None), (FULL, 3, None),
                (Program(1, 1, ((0, 0, (-3,)), (0, 0, (2,)))), 5, (0, 0, 1, 1, 1)),
                (Program(1, 1, ((0, 0, (-3,)), (0, 0, (2,)))), 4, None),
                (Program(1, 1, ((0, 0, (-1,)), (0, 0, (0,)), (0, 0, (1,)))), 6, (1,)),
                (Program(1, 1, ((0, 0, (-5,)), (0, 0, (1,)))), 6, (0, 1, 1, 1, 1, 1)),
                (Program(1, 3, ((0, 1, (1,)), (1, 2, (1,)), (2, 0, (-2,)))), 3, (0, 1, 2)),
                (Program(1, 3, ((0, 1, (1,)), (1, 2, (1,)), (2, 0, (-2,)))), 2, None),
                (Program(1, 2, ((1, 0, (4,)), (1, 1, (0,)))), 6, (1,)),
                (Program(1, 2, ((0, 1, (-4,)), (1, 0, (4,)), (1, 1, (-1,)), (1, 1, (1,)))), 6, (0, 1))):
            self.assertEqual(shortest_turn(program, most), told)

    def test_by_all_walks(self):
        chance = random.Random(6)
        found = []
        for _ in range(250):
            program = some_program(chance, chance.randint(1, 3), chance.randint(1, 3), chance.randint(0, 5), chance.choice((1, 2, 3)))
            for most in (chance.randint(1, 5), 5):
                told = least_turn_by_walks(program, most)
                self.assertEqual(shortest_turn(program, most), told)
                if told is not None:
                    found.append(len(told))
                    self.assertIs(is_turn(program, "boxes", told), True)
                    self.assertIs(works(program, "boxes"), False)
        self.assertTrue(set(found) >= {1, 2, 3, 4, 5})

    def test_six_readings(self):
        chance = random.Random(7)
        found = 0
        for _ in range(400):
            program = some_program(chance, 1, 2, 3, 7)
            told = least_turn_by_walks(program, 6)
            self.assertEqual(shortest_turn(program, 6), told)
            found += told is not None and len(told) == 6
        self.assertGreater(found, 2)

    def test_great_programs(self):
        for program in [GREAT, *great_programs(8)]:
            told = shortest_turn(program, 6)
            if told is not None:
                self.assertIs(is_turn(program, "boxes", told), True)
                self.assertLessEqual(len(told), 6)
                self.assertIsNone(shortest_turn(program, len(told) - 1) if len(told) > 1 else None)
        far = tuple((0, 0, (3 ** k,)) for k in range(23)) + ((0, 0, (-1 - 3 - 9 - 27 - 81,)),)
        self.assertEqual(shortest_turn(Program(1, 1, tuple(sorted(far))), 6), (0, 1, 2, 3, 4, 5))

    def test_no_number(self):
        for most in [*odd_things(), 0, 7, -1, 10 ** 79, True, False, "1", (1,), [1], None]:
            for program in (ROUND, EMPTY, GREAT):
                with self.assertRaises(NoNumber):
                    shortest_turn(program, most)
        for most in (1, 2, 3, 4, 5, 6):
            self.assertIsNone(shortest_turn(LINE, most))


if __name__ == "__main__":
    unittest.main()
