"""Flows and rows, which show each other to be right (4.1, 4.2)."""

import copy
import random
import unittest

from things import ALL_PROGRAMS, AHEAD, BOTH, DEEP, EMPTY, FULL, GREAT, LINE, ROUND, TWO, lists_deep, odd_things, tuples_deep
from turnsneeded.errors import NoLot, NoWorld
from turnsneeded.flows import flow, is_flow, is_row, kept, row
from turnsneeded.programs import Program, beside, stretched
from waiting import (LONG, WORLDS, climbing, flow_shown, great_programs, led_program, nest, row_shown, some_lots, some_program,
                     some_programs)

BAD_WORLDS = ["box", "Boxes", "corners", "", "boxes ", None, ("boxes",), ["corner"], b"corner", True, 0]


class Shown(unittest.TestCase):
    """A flow that has a reading and a row by which it is later exclude each other, so both are right."""

    def compared(self, program, lot, world):
        amounts, told, there = flow(program, lot, world), row(program, lot, world), kept(program, lot, world)
        self.assertTrue(flow_shown(program, lot, world, amounts))
        self.assertIs(type(there), tuple)
        self.assertEqual(there, tuple(k for k in lot if amounts[k] > 0))
        self.assertTrue(row_shown(program, lot, world, there, told))
        self.assertIs(is_flow(program, lot, world, amounts), True)
        self.assertIs(is_row(program, lot, world, told), True)
        return there

    def test_known_ones(self):
        for program, lot, boxes, corner in (
                (LINE, (0,), (), ()), (AHEAD, (0,), (), (0,)), (BOTH, (0, 1), (0, 1), (0, 1)), (BOTH, (1,), (), ()),
                (BOTH, (0,), (), (0,)), (ROUND, (0, 1), (0, 1), (0, 1)), (ROUND, (0,), (), ()), (EMPTY, (), (), ()),
                (TWO, (0, 1), (), ()), (DEEP, (0, 1, 2, 3), (0, 3), (0, 3)), (DEEP, (0, 1), (), ()), (DEEP, (3,), (), (3,)),
                (DEEP, (1, 2), (), ()), (DEEP, (0, 1, 2), (), ()), (DEEP, (1, 2, 3), (), (3,)), (DEEP, (), (), ())):
            self.assertEqual(self.compared(program, lot, "boxes"), boxes)
            self.assertEqual(self.compared(program, lot, "corner"), corner)

    def test_example_e05(self):
        self.assertEqual((kept(DEEP, (0, 1, 2, 3), "boxes"), kept(DEEP, (0, 1), "boxes")), ((0, 3), ()))

    def test_parts_that_lead_nowhere_near_each_other_flow_together(self):
        apart = Program(1, 3, ((0, 0, (3,)), (1, 1, (-2,)), (2, 2, (0,)), (2, 2, (1,))))
        self.assertEqual(self.compared(apart, (0, 1, 2, 3), "boxes"), (0, 1, 2, 3))
        self.assertEqual(self.compared(apart, (0, 2, 3), "boxes"), (2,))
        self.assertEqual(self.compared(apart, (1, 2), "boxes"), (2,))
        self.assertEqual(self.compared(apart, (1, 2, 3), "corner"), (1, 2, 3))
        self.assertEqual(self.compared(apart, (0, 2, 3), "corner"), (2,))

    def test_flows_of_great_amounts(self):
        far = Program(1, 1, ((0, 0, (1 - LONG,)), (0, 0, (LONG,))))
        self.assertEqual(self.compared(far, (0, 1), "boxes"), (0, 1))
        amounts = flow(far, (0, 1), "boxes")
        self.assertEqual(amounts[0] * (LONG - 1), amounts[1] * LONG)
        self.assertGreaterEqual(min(amounts), LONG - 1)
        wide = Program(2, 1, ((0, 0, (-LONG, 1)), (0, 0, (0, 1 - LONG)), (0, 0, (LONG - 1, 0))))
        self.assertEqual(self.compared(wide, (0, 1, 2), "boxes"), (0, 1, 2))
        self.assertEqual(self.compared(wide, (0, 1), "boxes"), ())
        self.assertEqual(self.compared(wide, (0, 1), "corner"), (0, 1))

    def test_programs_by_chance(self):
        chance = random.Random(1)
        sizes = []
        for program in some_programs(2, 240):
            for lot in some_lots(chance, program, 2):
                for world in WORLDS:
                    there = self.compared(program, lot, world)
                    sizes.append((len(lot) > 0, 0 < len(there) < len(lot), len(there) == len(lot)))
        self.assertGreater(len([one for one in sizes if one[1]]), 150)
        self.assertGreater(len([one for one in sizes if one[0] and one[2]]), 100)

    def test_known_depths(self):
        for depth in (1, 2, 3, 4):
            for world, program in (("boxes", nest(depth, 4)), ("boxes", climbing(depth)), ("corner", climbing(depth))):
                lot = tuple(range(len(program.readings)))
                there = self.compared(program, lot, world)
                # All but the readings that lead from one half to the other and back.
                self.assertEqual(len(there), len(lot) - 2 if depth > 1 else 0)

    def test_great_programs(self):
        chance = random.Random(3)
        for program in [*ALL_PROGRAMS, *great_programs(4)]:
            for lot in some_lots(chance, program, 1):
                for world in WORLDS:
                    there = self.compared(program, lot, world)
                    self.assertEqual(kept(program, there, world), there)

    def test_steps_of_some_thousand_figures(self):
        chance = random.Random(12)
        for program in (led_program(chance, 4, 16, 48, LONG), some_program(chance, 4, 16, 48, LONG), beside(nest(4, 4), nest(4, 4))):
            lot = tuple(range(len(program.readings)))
            there = [kept(program, lot, world) for world in WORLDS]
            for _ in range(400):
                program = stretched(program, LONG)
            self.assertEqual([self.compared(program, lot, world) for world in WORLDS], there)

    def test_kept_of_kept_ones_are_all_of_these(self):
        chance = random.Random(5)
        for program in some_programs(6, 100):
            for lot in some_lots(chance, program, 1):
                for world in WORLDS:
                    there = kept(program, lot, world)
                    self.assertEqual(kept(program, there, world), there)
                    # What keeps the point where it is goes down nowhere, too.
                    if world == "boxes":
                        self.assertLessEqual(set(there), set(kept(program, lot, "corner")))

    def test_equal_calls_give_equal_answers(self):
        for program in some_programs(7, 40):
            twin = copy.deepcopy(program)
            lot = tuple(range(len(program.readings)))
            for world in WORLDS:
                for told in (kept, flow, row):
                    self.assertEqual(told(program, lot, world), told(twin, copy.deepcopy(lot), world))
            self.assertEqual(program, twin)


class JudgingFlows(unittest.TestCase):
    def test_other_flows(self):
        for amounts in ((0, 0), (1, 1), (7, 7), (10 ** 79, 10 ** 79)):
            for world in WORLDS:
                self.assertIs(is_flow(ROUND, (0, 1), world, amounts), True)
        for amounts in ((1, 0), (0, 1), (2, 1), (-1, -1)):
            self.assertIs(is_flow(ROUND, (0, 1), "boxes", amounts), False)
        self.assertIs(is_flow(ROUND, (0,), "boxes", (1, 1)), False)
        self.assertIs(is_flow(ROUND, (0,), "boxes", (0, 0)), True)
        self.assertIs(is_flow(ROUND, (), "boxes", (0, 0)), True)
        self.assertIs(is_flow(ROUND, (), "boxes", (1, 1)), False)

    def test_in_the_corner_sums_may_be_below_0(self):
        for amounts, boxes, corner in (((1, 1), True, True), ((5, 1), False, True), ((1, 5), False, False), ((1, 0), False, True),
                                       ((0, 1), False, False)):
            self.assertIs(is_flow(BOTH, (0, 1), "boxes", amounts), boxes)
            self.assertIs(is_flow(BOTH, (0, 1), "corner", amounts), corner)
        sides = Program(2, 1, ((0, 0, (-1, 0)), (0, 0, (0, -1)), (0, 0, (1, -1))))
        for amounts, corner in (((1, 0, 0), True), ((0, 0, 1), False), ((1, 0, 1), True), ((1, 5, 2), False), ((2, 5, 2), True)):
            self.assertIs(is_flow(sides, (0, 1, 2), "corner", amounts), corner)
            self.assertIs(is_flow(sides, (0, 1, 2), "boxes", amounts), False)

    def test_one_part_changed(self):
        chance = random.Random(8)
        right = 0
        for program in some_programs(9, 60):
            for lot in some_lots(chance, program, 1):
                for world in WORLDS:
                    amounts = flow(program, lot, world)
                    for k in range(len(amounts)):
                        for one in (amounts[k] + 1, amounts[k] - 1, -amounts[k], 0, 10 ** 79):
                            thing = amounts[:k] + (one,) + amounts[k + 1:]
                            self.assertIs(is_flow(program, lot, world, thing), flow_shown(program, lot, world, thing))
                            right += thing != amounts and flow_shown(program, lot, world, thing)
                    for times in (0, 2, 10 ** 40):
                        self.assertIs(is_flow(program, lot, world, tuple(times * one for one in amounts)), True)
        self.assertGreater(right, 20)

    def test_things_of_another_form(self):
        for world in WORLDS:
            for thing in [*odd_things(), [1, 1], (1,), (1, 1, 1), (1, 1, 0), (True, True), (False, False), (True, 1), (1, None),
                          (1, "1"), ((1,), (1,)), (1, 1.0)[:1], {0: 1, 1: 1}, "11", b"\1\1", (1, tuples_deep(79)), (-1, -1)]:
                self.assertIs(is_flow(ROUND, (0, 1), world, thing), False)
            self.assertIs(is_flow(EMPTY, (), world, ()), True)
            for thing in odd_things():
                if thing != ():
                    self.assertIs(is_flow(EMPTY, (), world, thing), False)


class JudgingRows(unittest.TestCase):
    def test_other_rows(self):
        lot = (0, 1, 2, 3)
        for told in (((1, 0), (0, 0)), ((2, 0), (1, 0)), ((2, 0), (0, -1)), ((10 ** 70, 0), (1, 0))):
            for world in WORLDS:
                self.assertIs(is_row(DEEP, lot, world, told), row_shown(DEEP, lot, world, (0, 3), told))
        self.assertIs(is_row(DEEP, lot, "boxes", ((2, 0), (1, 0))), True)
        self.assertIs(is_row(DEEP, lot, "boxes", ((1, 0), (1, 0))), False)
        self.assertIs(is_row(DEEP, lot, "boxes", ((3, 0), (1, 0))), True)
        self.assertIs(is_row(DEEP, lot, "boxes", ((3, 1), (1, 0))), False)
        self.assertIs(is_row(LINE, (0,), "boxes", ((1,), (5,))), True)
        self.assertIs(is_row(LINE, (0,), "boxes", ((0,), (5,))), False)
        self.assertIs(is_row(ROUND, (0, 1), "boxes", ((0,), (5, 5))), True)
        self.assertIs(is_row(ROUND, (0, 1), "boxes", ((1,), (5, 6))), True)
        self.assertIs(is_row(ROUND, (0, 1), "boxes", ((1,), (6, 5))), False)
        self.assertIs(is_row(ROUND, (0,), "boxes", ((1,), (5, 5))), True)

    def test_in_the_corner_none_is_below_0(self):
        self.assertIs(is_row(AHEAD, (0,), "boxes", ((-1,), (0,))), True)
        self.assertIs(is_row(AHEAD, (0,), "corner", ((-1,), (0,))), False)
        self.assertIs(is_row(AHEAD, (0,), "corner", ((0,), (0,))), True)
        self.assertIs(is_row(TWO, (0, 1), "corner", ((1, 1), (0,))), True)
        self.assertIs(is_row(TWO, (0,), "boxes", ((-1, 1), (0,))), True)
        self.assertIs(is_row(TWO, (0,), "corner", ((-1, 1), (0,))), False)
        self.assertIs(is_row(TWO, (), "corner", ((-1, 1), (0,))), False)
        self.assertIs(is_row(TWO, (), "boxes", ((-1, 1), (0,))), True)

    def test_one_part_changed(self):
        chance = random.Random(10)
        right = 0
        for program in some_programs(11, 60, 4, 9):
            for lot in some_lots(chance, program, 1):
                for world in WORLDS:
                    told, there = row(program, lot, world), kept(program, lot, world)
                    for k in range(2):
                        for at in range(len(told[k])):
                            for more in (1, -1, 10 ** 60):
                                part = told[k][:at] + (told[k][at] + more,) + told[k][at + 1:]
                                thing = (part, told[1]) if k == 0 else (told[0], part)
                                self.assertIs(is_row(program, lot, world, thing), row_shown(program, lot, world, there, thing))
                                right += row_shown(program, lot, world, there, thing)
                    for times in (2, 10 ** 40):
                        many = tuple(tuple(times * one for one in side) for side in told)
                        self.assertIs(is_row(program, lot, world, many), True)
        self.assertGreater(right, 100)

    def test_things_of_another_form(self):
        for world in WORLDS:
            for thing in [*odd_things(), [(1,), (0, 0)], ([1], (0, 0)), ((1,), [0, 0]), ((1,),), ((1,), (0, 0), ()), ((), (0, 0)),
                          ((1, 1), (0, 0)), ((1,), (0,)), ((1,), (0, 0, 0)), ((True,), (0, 0)), ((1,), (False, False)),
                          ((1,), (0, None)), (("1",), (0, 0)), (1, (0, 0)), ((1,), 0), (((1,),), (0, 0)), (None, (0, 0)),
                          ((1,), None), ("1", "00"), ((tuples_deep(78),), (0, 0)), ((1,), (0, lists_deep(78))), {0: (1,), 1: (0, 0)}]:
                self.assertIs(is_row(ROUND, (0,), world, thing), False)
                self.assertIs(is_row(ROUND, (), world, thing), False)


class Errors(unittest.TestCase):
    CALLS = ((kept, 0), (flow, 0), (row, 0), (is_flow, 1), (is_row, 1))

    def raised(self, error, program, lot, world):
        for call, more in self.CALLS:
            for thing in [(None,), ((0, 0),), ([],)][:1 + 2 * more]:
                with self.assertRaises(error):
                    call(program, lot, world, *thing[:more])

    def test_no_lot(self):
        for lot in [*odd_things(), (2,), (-1,), (0, 2), (0, 0), (1, 0), (True,), (0, True), (False,), [0], [], "", {}, range(2),
                    None, 0, (0, "1"), (0, (1,)), (0, 1, 2)]:
            if lot != ():
                for world in ("boxes", "corner", None, "box"):
                    self.raised(NoLot, ROUND, lot, world)
        self.raised(NoLot, EMPTY, (0,), "boxes")
        self.raised(NoLot, GREAT, (48,), "corner")

    def test_no_world(self):
        for world in [*odd_things(), *BAD_WORLDS]:
            for program, lot in ((ROUND, (0, 1)), (ROUND, ()), (EMPTY, ()), (FULL, (0, 5))):
                self.raised(NoWorld, program, lot, world)

    def test_what_was_passed_stays_as_it_was(self):
        things = [[0], ([0],), {"a": [0]}, [[1], [0, 0]]]
        before = copy.deepcopy(things)
        for thing in things:
            self.assertIs(is_flow(ROUND, (0, 1), "boxes", thing), False)
            self.assertIs(is_row(ROUND, (0, 1), "boxes", thing), False)
            self.raised(NoLot, ROUND, thing, "boxes")
            self.raised(NoWorld, ROUND, (0,), thing)
        self.assertEqual(things, before)
        self.assertEqual(ROUND, Program(1, 2, ((0, 1, (1,)), (1, 0, (-1,)))))
        both = beside(stretched(ROUND, LONG), LINE)
        self.assertEqual(kept(both, (0, 1, 2), "boxes"), (0, 1))


if __name__ == "__main__":
    unittest.main()
