"""Chains told for all sizes (7.1 and 7.2)."""

import copy
import random
import unittest

from cells import BAD_MOST
from things import (AHEAD, BOTH, DEEP, EMPTY, FULL, GREAT, LINE, ROUND, TWO, lists_deep, odd_things, rounds_deep,
                    tuples_deep)
from turnsneeded.boxes import fits, is_chain_in, longest
from turnsneeded.chains import chain, chain_width, is_chain
from turnsneeded.errors import NoNumber, NoTable, NotWorking
from turnsneeded.levels import depths, works
from turnsneeded.logs import is_log
from turnsneeded.programs import Program, beside, renamed, stretched
from waiting import LONG, climbing, great_programs, mixed, nest, some_programs

HUGE = 10 ** 70
SIZES = (1, 2, 3, 10, 10 ** 12)


def gone(program, log):
    """What a log does, by sums of its parts: its counts of tables behind readings, where it ends, and its least and greatest."""
    sides = program.sides
    behind, at, least, most = [0] * program.tables, [0] * sides, [0] * sides, [0] * sides
    for item in log:
        if isinstance(item, tuple):
            _, many, inner = item
            more, end, low, high = gone(program, inner)
            far = [(many - 1) * one for one in end]
            low = [one + min(0, other) for one, other in zip(low, far)]
            high = [one + max(0, other) for one, other in zip(high, far)]
            more, end = [many * one for one in more], [many * one for one in end]
        else:
            _, read, step = program.readings[item]
            more = [int(table == read) for table in range(program.tables)]
            end = low = high = [-one for one in step]
        behind = [one + other for one, other in zip(behind, more)]
        least = [min(one, here + there) for one, here, there in zip(least, at, low)]
        most = [max(one, here + there) for one, here, there in zip(most, at, high)]
        at = [one + other for one, other in zip(at, end)]
    return behind, at, least, most


def ends(program, log):
    first, last = log[0], log[-1]
    while isinstance(first, tuple):
        first = first[2][0]
    while isinstance(last, tuple):
        last = last[2][-1]
    return program.readings[first][0], program.readings[last][1]


def walked(program, box, log):
    """The pairs at which the walk of a log stands, begun so that it stays in the box."""
    def walk(items):
        for item in items:
            if isinstance(item, tuple):
                for _ in range(item[1]):
                    yield from walk(item[2])
            else:
                yield program.readings[item]

    readings = list(walk(log))
    point = [-one for one in gone(program, log)[2]]
    found = [(ends(program, log)[0], tuple(point))]
    for reader, read, step in readings:
        assert reader == found[-1][0]
        point = [z - s for z, s in zip(point, step)]
        found.append((read, tuple(point)))
    return found


class Chains(unittest.TestCase):
    def shown(self, program, table, depth, sizes=SIZES, width=None):
        """Whether what is told of a table is right, for each of these sizes."""
        width = chain_width(program, table) if width is None else width
        self.assertIs(type(width), int)
        for n in sizes:
            told = chain(program, table, n)
            self.assertIs(type(told), tuple)
            box, log = told
            self.assertEqual(len(box), program.sides)
            for size in box:
                self.assertIs(type(size), int)
                self.assertTrue(1 <= size <= width * n)
            self.assertIs(is_log(program, log), True)
            self.assertIs(fits(program, box, log), True)
            self.assertIs(is_chain(program, table, n, told), True)
            if depth == 0:
                self.assertEqual(log, ())
                continue
            behind, _, least, most = gone(program, log)
            self.assertEqual(ends(program, log), (table, table))
            self.assertGreaterEqual(behind[table] + 1, n ** depth)
            self.assertTrue(all(high - low < size for low, high, size in zip(least, most, box)))
            if sum(behind) <= 3000:
                pairs = walked(program, box, log)
                self.assertTrue(all(0 <= z < size for _, point in pairs for z, size in zip(point, box)))
                self.assertEqual(len(set(pairs)), len(pairs))
                self.assertIs(is_chain_in(program, box, pairs), True)
                self.assertGreaterEqual([one for one, _ in pairs].count(table), n ** depth)

    def all_shown(self, program, counts=None, sizes=SIZES):
        there = depths(program, "boxes")
        if counts is not None:
            self.assertEqual(there, counts)
        for table, depth in enumerate(there):
            self.shown(program, table, depth, sizes)

    def test_known_ones(self):
        self.all_shown(EMPTY, (0,))
        self.all_shown(LINE, (1,))
        self.all_shown(TWO, (1,))
        self.all_shown(DEEP, (2, 2))
        self.all_shown(AHEAD, (1,))
        self.all_shown(FULL)
        self.all_shown(GREAT)
        self.all_shown(Program(1, 4, ((0, 1, (-9,)), (1, 1, (3,)), (1, 2, (0,)), (3, 1, (5,)))), (0, 1, 0, 0))

    def test_known_depths(self):
        chance = random.Random(1)
        for depth in (1, 2, 3, 4):
            for sides in range(depth, 5):
                program = nest(depth, sides)
                self.all_shown(program, (depth,) * program.tables)
            self.all_shown(climbing(depth), (depth,) * 2 ** (depth - 1))
            for sides in range(depth, 5):
                again = mixed(chance, nest(depth, sides))
                self.all_shown(again, (depth,) * again.tables)

    def test_rounds_made_often_of_long_steps(self):
        for there, back in ((1000, 7), (10 ** 6 + 1, 10 ** 6), (7, 1000), (LONG, LONG - 1), (1, LONG)):
            program = Program(2, 2, ((0, 0, (there, 0)), (0, 1, (0, 0)), (1, 0, (0, 1)), (1, 1, (-back, 0))))
            self.all_shown(program, (2, 2))
            self.all_shown(beside(program, stretched(program, LONG)), (2, 2, 2, 2))

    def test_tables_of_unlike_depths_beside_one_another(self):
        chance = random.Random(2)
        for one, other in ((1, 2), (2, 3), (1, 4), (3, 1)):
            program = beside(beside(nest(one, 4), Program(4, 1, ())), nest(other, 4))
            counts = (one,) * 2 ** (one - 1) + (0,) + (other,) * 2 ** (other - 1)
            self.all_shown(program, counts)
            names = list(range(program.tables))
            chance.shuffle(names)
            again = stretched(renamed(program, tuple(names)), LONG)
            self.all_shown(again, tuple(counts[names.index(k)] for k in range(len(names))))

    def test_a_table_less_deep_than_others_of_its_part(self):
        # Table 2 stands on the way between the loops of the two others alone.
        program = Program(2, 3, ((0, 0, (0, 1)), (0, 2, (0, 0)), (1, 0, (1, 0)), (1, 1, (0, -1)), (2, 1, (0, 0))))
        self.all_shown(program, (2, 2, 1))
        # What comes back to it within the part goes along the second side, too.
        program = Program(2, 3, ((0, 0, (0, 1)), (0, 1, (0, 0)), (1, 1, (0, -1)), (1, 2, (0, 5)), (2, 0, (1, -7)), (2, 2, (3, 2))))
        self.all_shown(program, (2, 2, 1))

    def test_what_the_loops_lead_on_is_taken_back(self):
        # The loops of the inner parts go unlike ways, and the readings between them far along the first side.
        program = Program(2, 2, ((0, 0, (0, 3)), (0, 1, (9, 14)), (1, 0, (1, -20)), (1, 1, (0, -5))))
        self.all_shown(program, (2, 2))
        self.all_shown(stretched(program, 7), (2, 2))

    def test_programs_by_chance(self):
        seen = []
        for program in some_programs(3, 500):
            if works(program, "boxes"):
                self.all_shown(program, sizes=(1, 2, 7, 10 ** 12))
                seen.extend(depths(program, "boxes"))
            else:
                with self.assertRaises(NotWorking):
                    chain_width(program, 0)
        for depth, least in ((0, 20), (1, 20), (2, 1)):
            self.assertGreaterEqual(seen.count(depth), least)

    def test_great_programs(self):
        greatest = 0
        for program in great_programs(4):
            if works(program, "boxes"):
                for table in (0, program.tables - 1):
                    depth = depths(program, "boxes")[table]
                    self.shown(program, table, depth, (1, 2, 10 ** 12))
                    greatest = max(greatest, depth)
        self.assertEqual(greatest, 4)

    def test_the_greatest_n_by_itself(self):
        for n in (1, 2, 5, 99, 10 ** 12 - 1, 10 ** 12):
            self.shown(nest(4, 4), 3, 4, (n,))

    def test_a_width_holds_for_all_n(self):
        for program in (LINE, DEEP, nest(3, 3), stretched(DEEP, 1000)):
            width = chain_width(program, 0)
            self.shown(program, 0, depths(program, "boxes")[0], range(1, 60), width)

    def test_the_sixth_fact_in_small_boxes(self):
        for program, table, n in ((LINE, 0, 5), (DEEP, 0, 3), (DEEP, 1, 2), (TWO, 0, 6)):
            box, _ = chain(program, table, n)
            self.assertGreaterEqual(longest(program, box, table), n ** depths(program, "boxes")[table])

    def test_equal_calls_give_equal_answers(self):
        for program in (LINE, DEEP, nest(4, 4), EMPTY):
            for n in (1, 10 ** 12):
                self.assertEqual(chain(program, 0, n), chain(copy.deepcopy(program), 0, n))
                self.assertEqual(chain_width(program, 0), chain_width(copy.deepcopy(program), 0))


class Judging(unittest.TestCase):
    def test_logs_that_stand_there_just_often_enough(self):
        for n in (2, 3, 10 ** 12):
            for box in ((n,), (HUGE,)):
                self.assertIs(is_chain(LINE, 0, n, (box, (("times", n - 1, (0,)),))), True)
            self.assertIs(is_chain(LINE, 0, n, ((n - 1,), (("times", n - 1, (0,)),))), False)
            self.assertIs(is_chain(LINE, 0, n, ((HUGE,), (("times", n, (0,)),))), True)
        for n in (3, 10 ** 12):
            self.assertIs(is_chain(LINE, 0, n, ((HUGE,), (("times", n - 2, (0,)),))), False)
        self.assertIs(is_chain(LINE, 0, 1, ((2,), (0,))), True)
        self.assertIs(is_chain(LINE, 0, 1, ((1,), (0,))), False)
        self.assertIs(is_chain(LINE, 0, 1, ((1,), ())), False)

    def test_the_depth_tells_how_often(self):
        n = 4
        for short, right in ((0, True), (1, False)):
            log = (("times", n - 1, (("times", n - 1, (0,)), 1, ("times", n, (3,)), 2)), ("times", n - 1 - short, (0,)))
            self.assertEqual(gone(DEEP, log)[0][0] + 1, n * n - short)
            self.assertIs(is_chain(DEEP, 0, n, ((99, 99), log)), right)
        self.assertIs(is_chain(DEEP, 0, 2, ((9, 9), (0, 0, 0))), True)
        self.assertIs(is_chain(DEEP, 0, 2, ((9, 9), (0, 0))), False)

    def test_all_boxes_one_smaller_on_a_side(self):
        for program in (LINE, DEEP, AHEAD, nest(3, 3), nest(4, 4)):
            for n in (1, 3, 10 ** 12):
                box, log = chain(program, 0, n)
                _, _, least, most = gone(program, log)
                just = tuple(high - low + 1 for low, high in zip(least, most))
                self.assertIs(is_chain(program, 0, n, (just, log)), True)
                for side in range(program.sides):
                    small = just[:side] + (just[side] - 1,) + just[side + 1:]
                    self.assertIs(is_chain(program, 0, n, (small, log)), False)
                    wide = just[:side] + (just[side] * HUGE,) + just[side + 1:]
                    self.assertIs(is_chain(program, 0, n, (wide, log)), True)

    def test_logs_of_another_table_or_not_closed(self):
        wide = (99, 99)
        self.assertIs(is_chain(DEEP, 1, 2, (wide, (3, 3, 3))), True)
        self.assertIs(is_chain(DEEP, 0, 2, (wide, (3, 3, 3))), False)
        # It stands in table 0 often enough, but begins or ends in the other one.
        self.assertIs(is_chain(DEEP, 0, 2, (wide, (2, 0, 0, 0, 0, 1))), False)
        self.assertIs(is_chain(DEEP, 0, 2, (wide, (0, 0, 0, 0, 1))), False)
        self.assertIs(is_chain(DEEP, 0, 2, (wide, (2, 0, 0, 0, 0))), False)
        self.assertIs(is_chain(DEEP, 0, 2, (wide, (0, 0, 0, 1, 2))), True)
        self.assertIs(is_chain(DEEP, 0, 2, (wide, (0, 0, 0, 2))), False)

    def test_depth_0(self):
        program = Program(1, 3, ((0, 1, (0,)), (1, 1, (1,)), (1, 2, (0,))))
        for table in (0, 2):
            for n in (1, 10 ** 12):
                for box in ((1,), (5,), (HUGE,)):
                    self.assertIs(is_chain(program, table, n, (box, ())), True)
                    for log in ((0,), (1,), (2,), (1, 1), [], None, (("times", 1, ()),), "", 0):
                        self.assertIs(is_chain(program, table, n, (box, log)), False)
                self.assertIs(is_chain(program, table, n, ((0,), ())), False)
        self.assertIs(is_chain(program, 1, 1, ((1,), ())), False)

    def test_things_that_are_none(self):
        log = (("times", 3, (0,)),)
        self.assertIs(is_chain(LINE, 0, 3, ((4,), log)), True)
        for thing in [[(4,), log], ((4,), log, 0), ((4,),), ([4], log), ((4,), list(log)), ((4, 4), log), ((), log), ((True,), log),
                      (("4",), log), (4, log), ((4,), (["times", 3, (0,)],)), ((4,), (("times", True, (0,)),)), ((4,), (False,) * 3),
                      ((4,), (0, 0, 1)), (log, (4,)), ((4,), rounds_deep(31)), ((4,), tuples_deep(79)), (tuples_deep(79), log)]:
            self.assertIs(is_chain(LINE, 0, 3, thing), False)
        for thing in [*odd_things(), tuples_deep(80), lists_deep(80)]:
            self.assertIs(is_chain(LINE, 0, 3, thing), False)
            self.assertIs(is_chain(DEEP, 1, 1, thing), False)
            self.assertIs(is_chain(EMPTY, 0, 1, thing), False)
            if thing != ():
                self.assertIs(is_chain(LINE, 0, 3, ((4,), thing)), False)
                self.assertIs(is_chain(EMPTY, 0, 3, ((4,), thing)), False)
            if not (type(thing) is tuple and len(thing) == 1 and type(thing[0]) is int and thing[0] > 0):
                self.assertIs(is_chain(LINE, 0, 3, (thing, log)), False)
                self.assertIs(is_chain(EMPTY, 0, 3, (thing, ())), False)


class Errors(unittest.TestCase):
    def test_not_working_comes_first_whatever_else_is_passed(self):
        for program in (ROUND, BOTH, Program(2, 3, ((2, 2, (0, 0)),))):
            for thing in [0, *odd_things()]:
                for call in (lambda: chain_width(program, thing), lambda: chain(program, thing, 1), lambda: chain(program, 0, thing),
                             lambda: chain(program, thing, thing), lambda: is_chain(program, thing, 1, ()),
                             lambda: is_chain(program, 0, thing, thing), lambda: is_chain(program, thing, thing, thing)):
                    with self.assertRaises(NotWorking):
                        call()

    def test_no_table_comes_ahead_of_no_number(self):
        for program in (LINE, DEEP, EMPTY, GREAT):
            for thing in [program.tables, program.tables + 1, *odd_things()]:
                for call in (lambda: chain_width(program, thing), lambda: chain(program, thing, 1), lambda: chain(program, thing, thing),
                             lambda: chain(program, thing, 0), lambda: is_chain(program, thing, 1, ((1,), ())),
                             lambda: is_chain(program, thing, 0, thing)):
                    with self.assertRaises(NoTable):
                        call()

    def test_no_number(self):
        for program in (LINE, DEEP, EMPTY):
            for n in [*BAD_MOST, 10 ** 12 + 1, *odd_things()]:
                with self.assertRaises(NoNumber):
                    chain(program, 0, n)
                with self.assertRaises(NoNumber):
                    is_chain(program, 0, n, n)

    def test_that_boxes_are_asked_alone(self):
        # Ahead works for boxes, but not in the corner.
        self.assertIs(works(AHEAD, "corner"), False)
        self.assertIs(is_chain(AHEAD, 0, 9, chain(AHEAD, 0, 9)), True)


if __name__ == "__main__":
    unittest.main()
