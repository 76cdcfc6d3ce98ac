"""Parts, tables of lots, levels and depths (5.1, 5.2)."""

import copy
import random
import unittest
from itertools import product

from test_flows import BAD_WORLDS
from things import AHEAD, ALL_PROGRAMS, BOTH, DEEP, EMPTY, FULL, GREAT, LINE, ROUND, TWO, lists_deep, odd_things, tuples_deep
from turnsneeded.errors import NoLot, NoWorld
from turnsneeded.flows import flow, row
from turnsneeded.levels import depths, is_levels, levels, parts, tables_of, works
from turnsneeded.programs import Program, alone, backward, beside, stretched
from waiting import (LONG, WORLDS, climbing, flow_shown, great_programs, lot_parts, mixed, nest, row_shown, some_lots,
                     some_programs)


def inner_parts(told):
    """All parts of levels, outer and inner ones, with how deep they stand and what stands in them."""
    for part, inner in told:
        yield 1, part, inner
        if inner != "turn":
            yield from ((deep + 1, *rest) for deep, *rest in inner_parts(inner))


class Parts(unittest.TestCase):
    def test_known_ones(self):
        for program, lot, told in (
                (DEEP, (0, 3), [(0,), (3,)]), (DEEP, (0, 1, 2, 3), [(0, 1, 2, 3)]), (DEEP, (0, 1, 3), [(0,), (3,)]),
                (DEEP, (1,), []), (DEEP, (1, 2), [(1, 2)]), (DEEP, (), []), (DEEP, (0, 1), [(0,)]), (LINE, (0,), [(0,)]),
                (TWO, (0, 1), [(0, 1)]), (ROUND, (0, 1), [(0, 1)]), (ROUND, (1,), []), (EMPTY, (), [])):
            self.assertEqual(parts(program, lot), told)

    def test_parts_ascend_by_their_readings(self):
        program = Program(1, 5, ((0, 3, (0,)), (1, 1, (0,)), (1, 2, (0,)), (2, 0, (0,)), (2, 4, (0,)), (3, 0, (5,)), (4, 2, (0,))))
        self.assertEqual(parts(program, tuple(range(7))), [(0, 5), (1,), (4, 6)])
        self.assertEqual(parts(program, (0, 1, 4, 5)), [(0, 5), (1,)])
        self.assertEqual(parts(program, (1, 2, 3, 4, 6)), [(1,), (4, 6)])
        whole = Program(1, 3, ((0, 1, (0,)), (0, 2, (0,)), (1, 2, (0,)), (2, 0, (0,)), (2, 2, (3,))))
        self.assertEqual(parts(whole, (0, 1, 2, 3, 4)), [(0, 1, 2, 3, 4)])
        self.assertEqual(parts(whole, (0, 1, 2, 4)), [(4,)])
        self.assertEqual(parts(whole, (1, 3)), [(1, 3)])

    def test_all_lots_of_small_programs(self):
        for program in [*some_programs(1, 30, 4, 7), DEEP, FULL]:
            many = min(7, len(program.readings))
            for flags in product((False, True), repeat=many):
                lot = tuple(k for k in range(many) if flags[k])
                self.assertEqual(parts(program, lot), lot_parts(program, lot))

    def test_programs_by_chance(self):
        chance = random.Random(2)
        for program in [*some_programs(3, 150, 8, 24), *ALL_PROGRAMS, *great_programs(4)]:
            for lot in some_lots(chance, program, 2):
                told = parts(program, lot)
                self.assertIs(type(told), list)
                self.assertTrue(all(type(part) is tuple for part in told))
                self.assertEqual(told, lot_parts(program, lot))

    def test_the_list_is_the_callers_own(self):
        told = parts(DEEP, (0, 3))
        told.append("more")
        told[0] = None
        self.assertEqual(parts(DEEP, (0, 3)), [(0,), (3,)])

    def test_tables_of(self):
        for program, lot, told in ((DEEP, (0,), (0,)), (DEEP, (3,), (1,)), (DEEP, (1,), (0, 1)), (DEEP, (), ()),
                                   (DEEP, (0, 3), (0, 1)), (FULL, (23,), (2, 7)), (FULL, (0, 7), (0, 7)), (EMPTY, (), ()),
                                   (GREAT, (24,), (8,)), (GREAT, (0, 47), (0, 10, 15))):
            self.assertEqual(tables_of(program, lot), told)
            self.assertIs(type(tables_of(program, lot)), tuple)
        chance = random.Random(5)
        for program in some_programs(6, 100, 8, 24):
            for lot in some_lots(chance, program, 2):
                pairs = [program.readings[k][:2] for k in lot]
                self.assertEqual(tables_of(program, lot), tuple(sorted({table for pair in pairs for table in pair})))

    def test_no_lot(self):
        for lot in [*odd_things(), (4,), (-1,), (0, 4), (0, 0), (1, 0), (True,), (0, True), (False,), [0], [], "", {}, range(2),
                    None, 0, (0, "1"), (0, (1,)), (0, 1, 2, 3, 4)]:
            if lot != ():
                for call in (parts, tables_of):
                    with self.assertRaises(NoLot):
                        call(DEEP, lot)
        for call in (parts, tables_of):
            with self.assertRaises(NoLot):
                call(EMPTY, (0,))
            with self.assertRaises(NoLot):
                call(GREAT, (48,))


class Levels(unittest.TestCase):
    def shown(self, program, lot, world, told):
        """Levels of the parts of a lot, each told by a flow and a row that show each other to be right."""
        self.assertIs(type(told), tuple)
        self.assertEqual([part for part, _ in told], lot_parts(program, lot))
        for part, inner in told:
            amounts, later = flow(program, part, world), row(program, part, world)
            self.assertTrue(flow_shown(program, part, world, amounts))
            there = tuple(k for k in part if amounts[k] > 0)
            self.assertTrue(row_shown(program, part, world, there, later))
            if there == part:
                self.assertEqual(inner, "turn")
            else:
                self.shown(program, there, world, inner)

    def compared(self, program, world):
        told = levels(program, world)
        self.shown(program, tuple(range(len(program.readings))), world, told)
        self.assertIs(is_levels(program, world, told), True)
        all_parts = list(inner_parts(told))
        working = "turn" not in [inner for _, _, inner in all_parts]
        self.assertIs(works(program, world), working)
        counts = [len([1 for _, part, _ in all_parts if table in tables_of(program, part)]) for table in range(program.tables)]
        self.assertEqual(depths(program, world), tuple(counts) if working else None)
        if working:
            # The third fact.
            self.assertLessEqual(max(counts), program.sides)
        return None if not working else max(counts)

    def test_examples_e01_to_e05(self):
        self.assertEqual((works(DEEP, "boxes"), depths(DEEP, "boxes"), depths(TWO, "boxes"), depths(ROUND, "boxes")),
                         (True, (2, 2), (1,), None))
        self.assertEqual(levels(DEEP, "boxes"), (((0, 1, 2, 3), (((0,), ()), ((3,), ()))),))
        self.assertEqual(levels(ROUND, "boxes"), (((0, 1), "turn"),))
        self.assertEqual((works(AHEAD, "boxes"), works(AHEAD, "corner")), (True, False))
        self.assertEqual(parts(DEEP, (0, 3)), [(0,), (3,)])

    def test_known_ones(self):
        for program, world, told, deep in (
                (EMPTY, "boxes", (), (0,)), (LINE, "boxes", (((0,), ()),), (1,)), (LINE, "corner", (((0,), ()),), (1,)),
                (AHEAD, "boxes", (((0,), ()),), (1,)), (AHEAD, "corner", (((0,), "turn"),), None),
                (BOTH, "boxes", (((0, 1), "turn"),), None), (ROUND, "corner", (((0, 1), "turn"),), None),
                (DEEP, "corner", (((0, 1, 2, 3), (((0,), ()), ((3,), "turn"))),), None), (TWO, "corner", (((0, 1), ()),), (1,)),
                (Program(2, 3, ((0, 1, (0, 0)), (1, 2, (0, 0)))), "boxes", (), (0, 0, 0)),
                (Program(1, 2, ((0, 0, (0,)), (1, 1, (2,)))), "boxes", (((0,), "turn"), ((1,), ())), None),
                (Program(1, 3, ((0, 0, (1,)), (0, 1, (0,)), (2, 2, (-1,)))), "boxes", (((0,), ()), ((2,), ())), (1, 0, 1))):
            self.assertEqual(levels(program, world), told)
            self.assertEqual(depths(program, world), deep)
            self.assertIs(works(program, world), deep is not None)
            self.compared(program, world)

    def test_opposite_readings(self):
        for step in ((1,), (5,), (LONG,)):
            both = Program(1, 1, ((0, 0, (-step[0],)), (0, 0, step)))
            self.assertEqual(levels(both, "boxes"), (((0, 1), "turn"),))
            # Two tables that go opposite ways hold each other in place, but each of them alone comes on.
            apart = Program(2, 2, ((0, 0, (0, step[0])), (0, 1, (0, 0)), (1, 0, (1, 0)), (1, 1, (0, -3))))
            self.assertEqual(levels(apart, "boxes"), (((0, 1, 2, 3), (((0,), ()), ((3,), ()))),))
            # Without a step between them, there is a walk that comes back.
            near = Program(2, 2, ((0, 0, (0, step[0])), (0, 1, (0, 0)), (1, 0, (0, 0)), (1, 1, (0, -3))))
            self.assertEqual(levels(near, "boxes"), (((0, 1, 2, 3), "turn"),))

    def test_known_depths(self):
        chance = random.Random(7)
        for depth in (1, 2, 3, 4):
            for sides in range(depth, 5):
                program = nest(depth, sides)
                for again in (program, mixed(chance, program), backward(program)):
                    self.assertEqual(depths(again, "boxes"), (depth,) * program.tables)
                    self.assertEqual(self.compared(again, "boxes"), depth)
            for program in (climbing(depth), stretched(climbing(depth), LONG)):
                self.assertEqual(depths(program, "boxes"), (depth,) * program.tables)
                self.assertEqual(depths(program, "corner"), (depth,) * program.tables)
                self.assertEqual(self.compared(program, "corner"), depth)
            told = levels(nest(depth, 4), "boxes")
            self.assertEqual([deep for deep, _, _ in inner_parts(told)].count(depth), 2 ** (depth - 1))

    def test_a_turn_within_levels(self):
        for depth in (2, 3, 4):
            program = nest(depth, 4)
            loop = [k for k, (x, y, _) in enumerate(program.readings) if x == y == 0][0]
            readings = list(program.readings)
            readings[loop] = (0, 0, (0, 0, 0, 0))
            stuck = Program(4, program.tables, tuple(sorted(readings)))
            self.assertIs(works(stuck, "boxes"), False)
            self.assertIsNone(depths(stuck, "boxes"))
            turns = [(deep, part) for deep, part, inner in inner_parts(levels(stuck, "boxes")) if inner == "turn"]
            self.assertEqual(turns, [(depth, (stuck.readings.index((0, 0, (0, 0, 0, 0))),))])
            self.compared(stuck, "boxes")

    def test_unlike_depths(self):
        both = beside(beside(nest(3, 3), nest(1, 3)), Program(3, 2, ((0, 1, (0, 0, 0)),)))
        self.assertEqual(depths(both, "boxes"), (3, 3, 3, 3, 1, 0, 0))
        more = beside(nest(2, 2), ALL_PROGRAMS[1])
        self.assertEqual(depths(more, "boxes"), (2, 2, 1))

    def test_programs_by_chance(self):
        told = []
        for program in some_programs(8, 300):
            for world in WORLDS:
                told.append(self.compared(program, world))
        self.assertGreater(min(told.count(deep) for deep in (None, 0, 1)), 40)

    def test_great_programs(self):
        for program in [*ALL_PROGRAMS, *great_programs(9)]:
            for world in WORLDS:
                self.compared(program, world)

    def test_fewer_readings_never_make_it_deeper(self):
        for program in [*some_programs(10, 60, 3, 8), nest(3, 3)]:
            for world in WORLDS:
                deep = depths(program, world)
                for k in range(len(program.readings)):
                    rest = depths(alone(program, tuple(j for j in range(len(program.readings)) if j != k)), world)
                    if deep is not None:
                        self.assertTrue(all(one <= two for one, two in zip(rest, deep, strict=True)))

    def test_no_world(self):
        for world in [*odd_things(), *BAD_WORLDS]:
            for program in (ROUND, EMPTY, FULL):
                for call in (levels, works, depths):
                    with self.assertRaises(NoWorld):
                        call(program, world)
                for thing in (None, (), [0]):
                    with self.assertRaises(NoWorld):
                        is_levels(program, world, thing)

    def test_equal_calls_give_equal_answers(self):
        for program in some_programs(11, 40):
            twin = copy.deepcopy(program)
            for world in WORLDS:
                for told in (levels, works, depths):
                    self.assertEqual(told(program, world), told(twin, world))
            self.assertEqual(program, twin)


def changes(told):
    """Things like this one, each with one change at some place."""
    if isinstance(told, str):
        yield from ("", "Turn", "turn ", told.encode(), None, ("turn",), [told], ())
    elif isinstance(told, int):
        yield from (told + 1, told - 1, bool(told) if told in (0, 1) else None, str(told), None, (told,), [told])
    else:
        yield from (list(told), told + ((),), told + told[-1:] if told else (0,), None, "turn", (told,), told[:-1] if told else [],
                    dict(enumerate(told)), 0)
        if len(told) > 1:
            yield told[::-1]
        for at, inner in enumerate(told):
            for thing in changes(inner):
                yield told[:at] + (thing,) + told[at + 1:]


class Judging(unittest.TestCase):
    def test_one_change_at_any_place(self):
        for program in (LINE, AHEAD, TWO, ROUND, DEEP, BOTH, EMPTY, nest(3, 3), Program(1, 2, ((0, 0, (0,)), (1, 1, (2,)))),
                        Program(1, 2, ((1, 0, (0,)), (1, 1, (2,))))):
            for world in WORLDS:
                told = levels(program, world)
                many = 0
                for thing in changes(told):
                    if repr(thing) != repr(told):
                        self.assertIs(is_levels(program, world, thing), False, thing)
                        many += 1
                self.assertGreater(many, 7)

    def test_levels_of_the_other_world(self):
        for program in [*some_programs(12, 80), AHEAD, DEEP]:
            boxes, corner = levels(program, "boxes"), levels(program, "corner")
            self.assertIs(is_levels(program, "corner", boxes), boxes == corner)
            self.assertIs(is_levels(program, "boxes", corner), boxes == corner)
        self.assertIs(is_levels(AHEAD, "boxes", (((0,), "turn"),)), False)
        self.assertIs(is_levels(AHEAD, "corner", (((0,), "turn"),)), True)

    def test_things_of_another_form(self):
        for program in (LINE, ROUND, DEEP, GREAT):
            for world in WORLDS:
                for thing in [*odd_things(), tuples_deep(80), lists_deep(80), ((tuples_deep(78), ()),), (((0,), tuples_deep(78)),),
                              [((0,), ())], ([(0,), ()],), (([0], ()),), (((0,), []),), (((False,), ()),), (((0,), ""),)]:
                    self.assertIs(is_levels(program, world, thing), False)
        for thing in odd_things():
            self.assertIs(is_levels(EMPTY, "boxes", thing), isinstance(thing, tuple) and len(thing) == 0)

    def test_a_flag_is_no_number(self):
        self.assertIs(is_levels(LINE, "boxes", (((0,), ()),)), True)
        self.assertIs(is_levels(LINE, "boxes", (((False,), ()),)), False)
        self.assertIs(is_levels(ROUND, "boxes", (((0, 1), "turn"),)), True)
        self.assertIs(is_levels(ROUND, "boxes", (((0, True), "turn"),)), False)
        self.assertIs(is_levels(ROUND, "boxes", (((False, 1), "turn"),)), False)

    def test_what_is_judged_stays_as_it_was(self):
        thing = [[[0], []]]
        before = copy.deepcopy(thing)
        self.assertIs(is_levels(LINE, "boxes", thing), False)
        self.assertEqual(thing, before)


if __name__ == "__main__":
    unittest.main()
