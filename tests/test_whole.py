"""What the document promises over the whole program (part 0), and all its examples."""

import copy
import importlib
import sys
import unittest

from cells import long_lines
from test_interface import CLASSES, FUNCTIONS
from things import AHEAD, DEEP, LINE, ROUND, TWO, odd_things, rounds_deep
from turnsneeded import errors
from turnsneeded.bench import Bench
from turnsneeded.boxes import (fits, is_chain_in, is_ring_in, least_cube, longest, longest_chain, ring_in, turns_with, waits_for, waves,
                               works_in)
from turnsneeded.chains import chain, chain_width, is_chain
from turnsneeded.desk import Desk
from turnsneeded.flows import flow, is_flow, is_row, kept, row
from turnsneeded.going import breakers, shallower
from turnsneeded.levels import depths, is_levels, levels, parts, tables_of, works
from turnsneeded.logs import added, ends_of, is_log, is_turn, is_walk, length, reach, visits, written_out
from turnsneeded.programs import Program, alone, also, backward, beside, renamed, stretched, turned, without
from turnsneeded.reading import read_log, read_program
from turnsneeded.sheets import Sheet
from turnsneeded.tasks import Task, answer, best_worth, is_answer, kind
from turnsneeded.texts import log_text, program_text
from turnsneeded.timetables import is_timetable, lag, spread, time_at, timetable
from turnsneeded.turns import shortest_turn, turn
from turnsneeded.working import is_order, led, ready, worked
from waiting import WORLDS, nest


class Examples(unittest.TestCase):
    def test_e01_to_e05(self):
        self.assertEqual((works(DEEP, "boxes"), depths(DEEP, "boxes"), depths(TWO, "boxes"), depths(ROUND, "boxes")), (True, (2, 2), (1,), None))
        self.assertEqual(levels(DEEP, "boxes"), (((0, 1, 2, 3), (((0,), ()), ((3,), ()))),))
        self.assertEqual((levels(ROUND, "boxes"), shortest_turn(ROUND, 4), breakers(ROUND, "boxes")),
                         ((((0, 1), "turn"),), (0, 1), [(0,), (1,)]))
        self.assertEqual((works(AHEAD, "boxes"), works(AHEAD, "corner")), (True, False))
        self.assertEqual((kept(DEEP, (0, 1, 2, 3), "boxes"), kept(DEEP, (0, 1), "boxes"), parts(DEEP, (0, 3))), ((0, 3), (), [(0,), (3,)]))

    def test_e06_to_e09(self):
        log = (("times", 3, (0,)),)
        self.assertEqual((length(LINE, log), added(LINE, log), reach(LINE, log), visits(LINE, log, 0)), (3, (3,), ((-3,), (0,)), 4))
        self.assertEqual((kind(Task(((1, 1),), (4,), (1, 2))), best_worth(Task(((1, 1),), (4,), (1, 2))), kind(Task(((1,),), (-1,), (0,))),
                          kind(Task((), (), (1,)))), ("best", (8, 1), "none", "endless"))
        self.assertIs(is_timetable(DEEP, "boxes", ((0, (((1, 0), 0), ((0, 1), 0))), (0, (((1, 0), -1), ((0, -1), 0))))), False)
        self.assertIs(is_timetable(DEEP, "boxes", ((0, (((2, 0), 0), ((0, 1), 0))), (0, (((2, 0), -1), ((0, -1), 0))))), True)

    def test_e10_to_e13(self):
        self.assertEqual((longest(TWO, (3, 4), 0), longest(DEEP, (3, 3), 0), longest(LINE, (5,), 0)), (6, 9, 5))
        self.assertEqual(waves(TWO, (2, 2)), [[(0, (0, 0))], [(0, (0, 1)), (0, (1, 0))], [(0, (1, 1))]])
        self.assertEqual((program_text(LINE), log_text(LINE, (0, ("times", 2, (0,))))), ("sides 1\ntables 1\n0 0 1\n", "0 2( 0 )"))
        self.assertEqual((least_cube(ROUND, 4), works_in(ROUND, (1,)), works_in(ROUND, (2,))), (2, True, False))

    def test_e14(self):
        s = Sheet(Program(1, 1, ((0, 0, (1,)), (0, 0, (2,)))), (("sum", 0),), 1000, (5,))
        s.edge(0, (-1,), 1)
        self.assertEqual((s.value(0, (4,)), s.made()), (8, 5))
        s.fix(0, (2,), 4)
        self.assertEqual((s.due(0, (4,)), s.value(0, (4,)), s.made(), s.roots(0, (4,))), (2, 10, 7, [(0, (-2,)), (0, (-1,)), (0, (2,))]))


def all_calls(program):
    """Calls of all functions of the package with right things of a program of one side."""
    lot, table, log, box = tuple(range(len(program.readings))), program.tables - 1, (), (3,)
    task, meaning = Task(((1, 1),), (4,), (1, 2)), (("sum", 1),) * program.tables
    calls = [
        (renamed, program, tuple(reversed(range(program.tables)))), (backward, program), (turned, program, ((-1,),)), (stretched, program, 3),
        (beside, program, LINE), (without, program, lot[:1]), (alone, program, lot[:1]), (also, program, (0, 0, (2,))),
        (program_text, program), (log_text, program, log), (read_program, program_text(program)), (read_log, program, ""),
        (is_walk, program, lot), (is_log, program, lot), (length, program, log), (visits, program, log, table), (added, program, log),
        (reach, program, log), (written_out, program, log), (ends_of, program, log), (answer, task), (is_answer, task, ("none", ())),
        (kind, task), (best_worth, task), (parts, program, lot), (tables_of, program, lot), (shortest_turn, program, 3),
        (fits, program, box, log), (works_in, program, box), (ring_in, program, box), (is_ring_in, program, box, ()),
        (is_chain_in, program, box, []), (waits_for, program, box, table, (2,)), (least_cube, program, 4), (shallower, program, 1),
        (is_order, program, box, []), (ready, program, box, []), (led, program, box, lambda told: told[0]),
    ]
    for world in WORLDS:
        calls += [
            (is_turn, program, world, log), (is_flow, program, lot, world, ()), (is_row, program, lot, world, ()), (kept, program, lot, world),
            (flow, program, lot, world), (row, program, lot, world), (levels, program, world), (is_levels, program, world, ()),
            (works, program, world), (depths, program, world), (turn, program, world), (timetable, program, world),
            (is_timetable, program, world, ()), (breakers, program, world),
        ]
    if works(program, "boxes"):
        times = timetable(program, "boxes")
        calls += [
            (time_at, program, times, table, (5,)), (spread, program, times, table, box), (chain_width, program, table),
            (chain, program, table, 5), (is_chain, program, table, 5, ()), (longest, program, box, table), (longest_chain, program, box, table),
            (waves, program, box), (turns_with, program, box, 2), (worked, program, meaning, 100, lambda table, point: 3, box),
        ]
        calls += [(lag, program, times, k) for k in lot]
    return calls


class Everywhere(unittest.TestCase):
    def test_all_functions_are_called_here(self):
        called = {call[0] for program in (LINE, ROUND) for call in all_calls(program)}
        there = {getattr(importlib.import_module(f"turnsneeded.{name}"), word) for name, words in FUNCTIONS.items() for word in words}
        self.assertEqual(called, there)

    def test_equal_calls_give_equal_answers_and_change_nothing(self):
        for program in (LINE, ROUND, AHEAD, Program(1, 3, ((0, 1, (0,)), (1, 1, (2,)), (2, 1, (-3,))))):
            held = copy.deepcopy(program)
            for call, *passed in all_calls(program):
                first = call(*passed)
                wanted = copy.deepcopy(first)
                self.assertEqual(call(*passed), wanted, call)
                if isinstance(first, (list, dict)):
                    first.clear()
                    self.assertEqual(call(*passed), wanted, call)
                self.assertEqual(program, held)

    def test_objects_are_equal_to_nothing_of_another_kind(self):
        objects = [LINE, Task((), (), (1,)), Bench(1, 1), Desk(), Sheet(LINE, (("sum", 0),), 10, (2,)), errors.NoBox(), errors.TooMany(5000)]
        self.assertEqual(len({type(thing) for thing in objects}), 7)
        self.assertLessEqual({name for words in CLASSES.values() for name in words}, {type(thing).__name__ for thing in objects})
        for k, thing in enumerate(objects):
            for other in [*odd_things(), *objects[:k], *objects[k + 1:]]:
                if type(other) is not type(thing):
                    self.assertFalse(thing == other or other == thing)
                    self.assertTrue(thing != other and other != thing)

    def test_errors_are_turn_errors(self):
        for name, kind_of in vars(errors).items():
            if isinstance(kind_of, type) and name != "TurnError":
                self.assertEqual(kind_of.__bases__, (errors.TurnError,))


class Shallow(unittest.TestCase):
    """No call comes near to the depth at which Python stops, however long things wait one behind another."""

    def setUp(self):
        self.limit = sys.getrecursionlimit()
        depth, frame = 0, sys._getframe()
        while frame is not None:
            depth, frame = depth + 1, frame.f_back
        sys.setrecursionlimit(depth + 150)

    def tearDown(self):
        sys.setrecursionlimit(self.limit)

    def test_boxes_in_which_all_wait_one_behind_another(self):
        for program, box in long_lines():
            chain_there = longest_chain(program, box, 0)
            self.assertIs(is_chain_in(program, box, chain_there), True)
            self.assertIs(works_in(program, box), True)
            self.assertEqual(len(waves(program, box)), 5000)
            order = led(program, box, lambda told: told[0])
            self.assertIs(is_order(program, box, order), True)
            self.assertEqual(ready(program, box, order[:-1]), order[-1:])
            self.assertEqual(len(waits_for(program, box, *order[-1])), 4999)
            self.assertEqual(worked(program, (("sum", 1),) * program.tables, 10 ** 6, lambda table, point: 0, box)[order[-1]], 5000)
        ring = ring_in(Program(1, 1, ((0, 0, (-4999,)), (0, 0, (1,)))), (5000,))
        self.assertEqual(len(ring[2]), 5000)

    def test_sheets_in_which_all_wait_one_behind_another(self):
        for program, box in long_lines():
            sheet = Sheet(program, (("sum", 1),) * program.tables, 10 ** 6, box)
            plan = sheet.plan()
            self.assertIs(sheet.is_plan(plan), True)
            self.assertEqual((sheet.due(*plan[-1]), sheet.value(*plan[-1])), (5000, 5000))
            self.assertEqual((len(sheet.hanging(*plan[0])), len(sheet.copy().all_values())), (4999, 5000))
            self.assertLessEqual(sheet.roots(*plan[-1]), sorted(sheet.edges()))

    def test_things_nested_deep_and_great_programs(self):
        for thing in odd_things():
            for call in (is_walk, is_log):
                call(LINE, thing)
            for judge in (lambda thing: is_ring_in(LINE, (3,), thing), lambda thing: is_chain_in(LINE, (3,), thing),
                          lambda thing: is_chain(LINE, 0, 3, thing), lambda thing: is_order(LINE, (3,), thing),
                          lambda thing: is_levels(LINE, "boxes", thing), lambda thing: is_timetable(LINE, "boxes", thing),
                          lambda thing: Sheet(LINE, (("sum", 0),), 10, (3,)).is_plan(thing)):
                self.assertIn(judge(thing), (True, False))
        self.assertEqual(visits(LINE, rounds_deep(30), 0), 2 ** 30 + 1)
        deep = nest(4, 4)
        self.assertIs(is_chain(deep, 0, 10 ** 12, chain(deep, 0, 10 ** 12)), True)
        desk = Desk()
        desk.tell("program a " + program_text(deep).replace("\n", "|"))
        self.assertEqual(desk.tell("depths a boxes"), "4 4 4 4 4 4 4 4")


if __name__ == "__main__":
    unittest.main()
