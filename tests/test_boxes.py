"""Told boxes (8.1 to 8.3)."""

import copy
import random
import unittest

from cells import (BAD_MOST, HUGE, bad_for, chain_shown, greatest_in, is_plain, line_of, long_lines, moved, ordered, pairs_in,
                   reads_in, waits_in, within, works_there)
from things import (AHEAD, ALL_PROGRAMS, BOTH, DEEP, EMPTY, FULL, GREAT, LINE, ROUND, TWO, lists_deep, odd_things, rounds_deep,
                    tuples_deep)
from turnsneeded.boxes import (fits, is_chain_in, is_ring_in, least_cube, longest, longest_chain, ring_in, turns_with, waits_for,
                               waves, works_in)
from turnsneeded.errors import NoBox, NoLog, NoNumber, NoPoint, NoTable, NotWorking, TooMany
from turnsneeded.levels import works
from turnsneeded.programs import Program, beside, stretched
from waiting import some_programs, unit

SMALL = {1: [(1,), (2,), (3,), (7,), (12,)], 2: [(1, 1), (1, 4), (2, 3), (4, 3)], 3: [(1, 1, 1), (2, 2, 3), (1, 3, 2)],
         4: [(1, 1, 1, 1), (2, 2, 2, 2), (1, 3, 1, 2)]}
STILL = Program(2, 1, ((0, 0, (0, 0)),))
# What waits for itself comes round within a box of 3 points, not of 2.
WIDE_ROUND = Program(1, 2, ((0, 1, (2,)), (1, 0, (-2,))))


def small_cases(seed, many):
    """Programs by chance with small boxes for them."""
    chance = random.Random(seed)
    for program in some_programs(seed, many, 3, 6):
        yield program, chance.choice(SMALL[program.sides])
    for program in (LINE, TWO, DEEP, ROUND, AHEAD, EMPTY, BOTH, STILL, WIDE_ROUND):
        for box in SMALL[program.sides]:
            yield program, box


def told_ring(program, box, ring):
    """Whether a triple is a ring in a box, by the words of 8.1."""
    if type(ring) is not tuple or len(ring) != 3 or not is_plain(ring):
        return False
    table, point, walk = ring
    if type(walk) is not tuple or not walk or (table, point) not in pairs_in(program, box):
        return False
    at = table, point
    for k in walk:
        reader, read, step = program.readings[k]
        if reader != at[0]:
            return False
        at = read, moved(at[1], step)
        if not within(box, at[1]):
            return False
    return at == (table, point)


def most_by_hand(program, box, table):
    """The most points of a table in a chain, from pair to pair."""
    reads = reads_in(program, box)
    most = {}
    for pair in ordered(program, box):
        most[pair] = int(pair[0] == table) + max([most[other] for other in reads[pair]], default=0)
    return max(most.values())


class Cases(unittest.TestCase):
    def raised(self, error, call, *passed):
        with self.assertRaises(error) as caught:
            call(*passed)
        self.assertIs(type(caught.exception), error)
        if error is TooMany:
            self.assertEqual(caught.exception.most, 5000)


class Fitting(Cases):
    def test_walks_just_as_wide_as_the_box(self):
        for many in (1, 2, 5, 100, 10 ** 60):
            log = (("times", many, (0,)),)
            for size, right in ((many, False), (many + 1, True), (many + 2, True), (HUGE, True), (1, False)):
                self.assertIs(fits(LINE, (size,), log), right)
                self.assertIs(fits(AHEAD, (size,), log), right)

    def test_each_side_for_itself(self):
        log = (0, 0, 0, 1, 1)
        for box, right in (((3, 4), True), ((2, 4), False), ((3, 3), False), ((HUGE, 3), False), ((2, HUGE), False), ((HUGE, HUGE), True)):
            self.assertIs(fits(TWO, box, log), right)

    def test_ways_there_and_back(self):
        for log, size in (((0, 0, 1, 1), 3), ((0, 1, 0, 1), 2), ((0, 0, 1, 1, 1, 1), 5), ((1, 0, 0, 0), 4)):
            for more in (-1, 0, 1):
                self.assertIs(fits(BOTH, (size + more,), log), more >= 0)
        # It stands at 0 at first, which counts, too.
        far = Program(1, 1, ((0, 0, (7,)),))
        self.assertIs(fits(far, (7,), (0,)), False)
        self.assertIs(fits(far, (8,), (0,)), True)

    def test_rounds_that_come_back(self):
        log = (("times", 10 ** 60, (1, 0)),)
        self.assertIs(fits(ROUND, (2,), (("times", 10 ** 60, (0, 1)),)), True)
        self.assertIs(fits(ROUND, (1,), log), False)
        self.assertIs(fits(ROUND, (2,), log), True)

    def test_the_empty_log_fits_everywhere(self):
        for program in ALL_PROGRAMS:
            for size in (1, 2, HUGE):
                self.assertIs(fits(program, (size,) * program.sides, ()), True)

    def test_no_box_comes_ahead_of_no_log(self):
        for program in (LINE, TWO, GREAT):
            for box in bad_for(program.sides):
                self.raised(NoBox, fits, program, box, ())
                self.raised(NoBox, fits, program, box, None)
            for log in [[], (99,), (0, ("times", 0, (0,))), (True,), rounds_deep(31), *odd_things()]:
                if log != ():
                    self.raised(NoLog, fits, program, (1,) * program.sides, log)


class Rings(Cases):
    def compared(self, program, box):
        right = works_there(program, box)
        self.assertIs(works_in(program, box), right)
        ring = ring_in(program, box)
        if right:
            self.assertIsNone(ring)
        else:
            self.assertTrue(told_ring(program, box, ring))
            self.assertIs(is_ring_in(program, box, ring), True)
        self.assertEqual(ring, ring_in(copy.deepcopy(program), box))
        return right

    def test_example_13(self):
        self.assertEqual((least_cube(ROUND, 4), works_in(ROUND, (1,)), works_in(ROUND, (2,))), (2, True, False))

    def test_small_boxes_by_going_through_them(self):
        told = [self.compared(program, box) for program, box in small_cases(1, 700)]
        self.assertGreater(min(told.count(True), told.count(False)), 60)

    def test_programs_that_work_in_small_boxes_alone(self):
        for size in range(1, 7):
            self.assertIs(works_in(WIDE_ROUND, (size,)), size < 3)
            self.compared(WIDE_ROUND, (size,))
        long = stretched(ROUND, 10 ** 12)
        for size in (1, 2, 2000):
            self.assertIs(works_in(long, (size,)), True)
        # Between the pairs of the ring each side must have room.
        bent = Program(2, 2, ((0, 1, (1, 3)), (1, 0, (-1, -3))))
        for box in ((1, 9), (9, 3), (2, 3), (1, 4), (2, 4), (5, 5)):
            self.assertIs(works_in(bent, box), box not in ((2, 4), (5, 5)))
            self.compared(bent, box)

    def test_the_seventh_fact(self):
        for program in some_programs(2, 200, 3, 6):
            if works(program, "boxes"):
                for box in SMALL[program.sides]:
                    self.assertIs(works_in(program, box), True)

    def test_a_table_that_reads_itself_at_the_same_point(self):
        self.assertIs(works_in(STILL, (1, 1)), False)
        table, _, walk = ring_in(STILL, (3, 2))
        self.assertEqual((table, set(walk)), (0, {0}))
        self.assertIs(is_ring_in(STILL, (3, 2), (0, (2, 1), (0,))), True)
        self.assertIs(is_ring_in(STILL, (3, 2), (0, (2, 1), (0, 0, 0))), True)

    def test_rings_far_from_where_most_is(self):
        # Table 1 waits for table 0 everywhere, and only table 2 for itself.
        program = Program(1, 4, ((0, 0, (1,)), (1, 0, (0,)), (2, 1, (0,)), (2, 3, (3,)), (3, 2, (-3,))))
        for size in (1, 3, 4, 1250):
            self.assertIs(works_in(program, (size,)), size < 4)
            ring = ring_in(program, (size,))
            if size >= 4:
                self.assertIs(is_ring_in(program, (size,), ring), True)
                self.assertEqual(set(ring[2]), {3, 4})

    def test_5000_pairs_and_one_more(self):
        for call in (works_in, ring_in):
            self.assertIn(call(LINE, (5000,)), (True, None))
            self.assertIn(call(beside(LINE, EMPTY), (2500,)), (True, None))
            self.raised(TooMany, call, LINE, (5001,))
            self.raised(TooMany, call, beside(LINE, EMPTY), (2501,))
            for program in ALL_PROGRAMS:
                self.raised(TooMany, call, program, (5000 // program.tables + 1,) + (1,) * (program.sides - 1))
                self.raised(TooMany, call, program, (HUGE,) * program.sides)

    def test_rings_through_a_whole_box(self):
        # Each waits for the next, and the last one for the first.
        step = Program(1, 1, ((0, 0, (-4999,)), (0, 0, (1,))))
        self.assertIs(works_in(step, (4999,)), True)
        self.assertIs(works_in(step, (5000,)), False)
        ring = ring_in(step, (5000,))
        self.assertEqual((len(ring[2]), ring[2].count(0)), (5000, 1))
        self.assertIs(is_ring_in(step, (5000,), ring), True)

    def test_long_lines(self):
        for program, box in long_lines():
            self.assertIs(works_in(program, box), True)
            self.assertIsNone(ring_in(program, box))

    def test_great_programs(self):
        chance = random.Random(3)
        for tables, box in ((16, (3, 4, 4, 6)), (1, (5, 10, 10, 10)), (16, (312, 1, 1, 1))):
            program = greatest_in(tables, 48, 2, chance)
            self.assertIs(works_in(program, box), True)
            self.assertIsNone(ring_in(program, box))
            again = beside(greatest_in(14, 46, 2, chance), ROUND_4)
            self.assertEqual((again.tables, len(again.readings)), (16, 48))
            if tables == 16:
                self.assertIs(works_in(again, box), False)
                self.assertIs(is_ring_in(again, box, ring_in(again, box)), True)
        self.assertIs(works_in(GREAT, (2, 2, 2, 2)), True)


ROUND_4 = Program(4, 2, ((0, 1, unit(4, 0)), (1, 0, tuple(-one for one in unit(4, 0)))))


class JudgingRings(Cases):
    def test_right_ones(self):
        for box in ((2,), (3,), (HUGE,)):
            for thing in ((0, (1,), (0, 1)), (1, (0,), (1, 0)), (0, (1,), (0, 1) * 5), (0, (1,), (0, 1) * 2500)):
                self.assertIs(is_ring_in(ROUND, box, thing), True)
        self.assertIs(is_ring_in(ROUND, (HUGE,), (0, (HUGE - 1,), (0, 1))), True)
        self.assertIs(is_ring_in(stretched(ROUND, 10 ** 12), (10 ** 12 + 1,), (0, (10 ** 12,), (0, 1))), True)

    def test_walks_that_leave_the_box_on_the_way(self):
        self.assertIs(is_ring_in(ROUND, (2,), (0, (0,), (0, 1))), False)
        self.assertIs(is_ring_in(ROUND, (1,), (0, (0,), (0, 1))), False)
        self.assertIs(is_ring_in(BOTH, (3,), (0, (1,), (0, 1, 1, 0))), True)
        self.assertIs(is_ring_in(BOTH, (3,), (0, (0,), (0, 1, 1, 0))), False)
        self.assertIs(is_ring_in(BOTH, (3,), (0, (2,), (0, 1))), False)
        self.assertIs(is_ring_in(BOTH, (3,), (0, (2,), (1, 0))), True)

    def test_one_part_changed(self):
        self.assertIs(is_ring_in(ROUND, (3,), (0, (2,), (0, 1))), True)
        for thing in [(1, (2,), (0, 1)), (0, (3,), (0, 1)), (0, (-1,), (0, 1)), (0, (2,), (0,)), (0, (2,), ()), (0, (2,), (1, 0)),
                      (0, (2,), (0, 1, 0)), (0, (2,), (0, 2)), (0, (2,), (0, -1)), (2, (2,), (0, 1)), (0, (2, 0), (0, 1)),
                      (0, (), (0, 1)), (0, [2], (0, 1)), (0, (2,), [0, 1]), [0, (2,), (0, 1)], (0, (2,), (0, 1), 0), (0, (2,)),
                      (False, (2,), (0, 1)), (0, (True,), (0, 1)), (0, (2,), (False, True)), (0, (2,), (("times", 1, (0, 1)),)),
                      ("0", (2,), (0, 1)), (0, 2, (0, 1)), (0, (2,), "01"), (0, (2,), (0, 0))]:
            self.assertIs(is_ring_in(ROUND, (3,), thing), False)
        # A walk that ends elsewhere, and one that ends in another table.
        self.assertIs(is_ring_in(LINE, (3,), (0, (2,), (0,))), False)
        # A walk from one table to another is none, in whichever of them it is said to begin.
        for table in (0, 1):
            self.assertIs(is_ring_in(Program(1, 2, ((0, 1, (0,)),)), (3,), (table, (2,), (0,))), False)

    def test_odd_things(self):
        for program in (ROUND, STILL, EMPTY, GREAT):
            box = (2,) * program.sides
            for thing in [*odd_things(), tuples_deep(80), lists_deep(80)]:
                self.assertIs(is_ring_in(program, box, thing), False)
                self.assertIs(is_ring_in(program, box, (0, (0,) * program.sides, thing)), False)
                self.assertIs(is_ring_in(program, box, (0, thing, (0,))), False)
                self.assertIs(is_ring_in(program, box, (thing, (0,) * program.sides, (0,))), False)

    def test_no_box_alone(self):
        for box in bad_for(1):
            for call in (works_in, ring_in):
                self.raised(NoBox, call, ROUND, box)
            self.raised(NoBox, is_ring_in, ROUND, box, (0, (1,), (0, 1)))
            self.raised(NoBox, is_ring_in, ROUND, box, None)
        self.assertIs(is_ring_in(ROUND, (HUGE,), None), False)


class Longest(Cases):
    def compared(self, program, box):
        for table in range(program.tables):
            most = most_by_hand(program, box, table)
            self.assertEqual(longest(program, box, table), most)
            chain = longest_chain(program, box, table)
            self.assertTrue(chain_shown(program, box, chain) and is_plain(chain))
            self.assertIs(is_chain_in(program, box, chain), True)
            self.assertEqual([there for there, _ in chain].count(table), most)

    def test_example_10(self):
        self.assertEqual((longest(TWO, (3, 4), 0), longest(DEEP, (3, 3), 0), longest(LINE, (5,), 0)), (6, 9, 5))

    def test_small_boxes_by_going_through_them(self):
        compared = 0
        for program, box in small_cases(4, 500):
            if works_there(program, box):
                self.compared(program, box)
                compared += 1
            else:
                self.raised(NotWorking, longest, program, box, 0)
                self.raised(NotWorking, longest_chain, program, box, 0)
        self.assertGreater(compared, 200)

    def test_programs_that_work_in_small_boxes_alone(self):
        self.assertEqual(longest(ROUND, (1,), 0), 1)
        self.raised(NotWorking, longest, ROUND, (2,), 0)
        self.assertEqual(longest(WIDE_ROUND, (2,), 1), 1)
        self.compared(WIDE_ROUND, (2,))

    def test_a_table_that_no_reading_has(self):
        self.assertEqual(longest(beside(LINE, EMPTY), (9,), 1), 1)
        self.assertEqual(longest(beside(LINE, EMPTY), (9,), 0), 9)
        self.assertEqual([there for there, _ in longest_chain(beside(LINE, EMPTY), (9,), 1)], [1])

    def test_long_lines(self):
        for program, box in long_lines():
            chain = longest_chain(program, box, 0)
            self.assertIs(is_chain_in(program, box, chain), True)
            self.assertEqual([table for table, _ in chain].count(0), 5000 // program.tables)
            self.assertEqual(longest(program, box, 0), 5000 // program.tables)

    def test_great_programs(self):
        chance = random.Random(5)
        program = greatest_in(16, 48, 1, chance)
        box = (3, 4, 5, 5)
        chain = longest_chain(program, box, 7)
        self.assertIs(is_chain_in(program, box, chain), True)
        self.assertEqual([table for table, _ in chain].count(7), longest(program, box, 7))

    def test_errors_in_their_order(self):
        for call in (longest, longest_chain):
            for box in bad_for(1):
                self.raised(NoBox, call, ROUND, box, 0)
                self.raised(NoBox, call, ROUND, box, None)
            for table in [2, HUGE, *odd_things()]:
                self.raised(NoTable, call, ROUND, (2,), table)
                self.raised(NoTable, call, ROUND, (HUGE,), table)
            self.raised(TooMany, call, ROUND, (2501,), 0)
            self.raised(TooMany, call, ROUND, (HUGE,), 1)
            self.raised(NotWorking, call, ROUND, (2500,), 0)

    def test_lists_are_new(self):
        first = longest_chain(LINE, (4,), 0)
        first.clear()
        self.assertEqual(longest_chain(LINE, (4,), 0), [(0, (3,)), (0, (2,)), (0, (1,)), (0, (0,))])


class JudgingChains(Cases):
    def test_right_ones(self):
        self.assertIs(is_chain_in(LINE, (3,), [(0, (2,)), (0, (1,)), (0, (0,))]), True)
        for box in ((1,), (HUGE,)):
            self.assertIs(is_chain_in(EMPTY, box, [(0, (0,))]), True)
            self.assertIs(is_chain_in(EMPTY, box, [(0, (0,)), (0, (0,))]), False)
        self.assertIs(is_chain_in(LINE, (HUGE,), [(0, (HUGE - 1,)), (0, (HUGE - 2,))]), True)
        self.assertIs(is_chain_in(ROUND, (2,), [(0, (1,)), (1, (0,))] * 9), True)
        self.assertIs(is_chain_in(LINE, (5000,), [(0, (4999 - k,)) for k in range(5000)]), True)

    def test_wrong_ones(self):
        for thing in [[], (), ((0, (1,)), (0, (0,))), [(0, (0,)), (0, (1,))], [(0, (2,)), (0, (0,))], [(0, (3,)), (0, (2,))],
                      [(0, (0,)), (0, (-1,))], [(0, (1,)), (0, (1,))], [[0, (1,)]], [(0, [1])], [(0, 1)], [(1, (1,))], [(0, (1,), 0)],
                      [(0, (1, 0))], [(0, (1,)), None], [(False, (1,))], [(0, (True,))], [(0, ())], [(-1, (1,))], [0, (1,)], [None],
                      [(0, (1,)), [(0, (0,))]], (0, (1,)), {0: (0, (1,))}, "00", [()], [(0, (1,)), (0, (False,))]]:
            self.assertIs(is_chain_in(LINE, (3,), thing), False)
        self.assertIs(is_chain_in(DEEP, (3, 3), [(0, (0, 2)), (1, (0, 2)), (1, (0, 1))]), False)
        self.assertIs(is_chain_in(DEEP, (3, 3), [(0, (0, 2)), (1, (0, 1)), (1, (0, 2))]), False)
        self.assertIs(is_chain_in(DEEP, (3, 3), [(0, (0, 2)), (1, (0, 2))]), True)

    def test_odd_things(self):
        for program in (LINE, GREAT):
            box = (2,) * program.sides
            for thing in [*odd_things(), tuples_deep(80), lists_deep(80)]:
                self.assertIs(is_chain_in(program, box, thing), False)
                self.assertIs(is_chain_in(program, box, [thing]), False)
                self.assertIs(is_chain_in(program, box, [(0, thing)]), False)
                self.assertIs(is_chain_in(program, box, [(thing, (0,) * program.sides)]), False)

    def test_no_box(self):
        for box in bad_for(1):
            self.raised(NoBox, is_chain_in, LINE, box, [(0, (0,))])
            self.raised(NoBox, is_chain_in, LINE, box, None)


class Waiting(Cases):
    def test_small_boxes_by_going_through_them(self):
        for program, box in small_cases(6, 300):
            there = waits_in(program, box)
            for table, point in pairs_in(program, box):
                told = waits_for(program, box, table, point)
                self.assertEqual(told, sorted(there[(table, point)]))
                self.assertIs(type(told), list)
                self.assertTrue(is_plain(told))

    def test_a_pair_that_waits_for_itself(self):
        self.assertEqual(waits_for(ROUND, (2,), 0, (1,)), [(0, (1,)), (1, (0,))])
        self.assertEqual(waits_for(ROUND, (2,), 0, (0,)), [])

    def test_long_lines(self):
        for program, box in long_lines():
            most = max(len(waits_for(program, box, table, point)) for table, point in self.ends(program, box))
            self.assertEqual(most, 4999)

    def ends(self, program, box):
        last = tuple(size - 1 for size in box)
        return [(table, point) for table in (0, program.tables - 1) for point in (last, (0,) * program.sides)]

    def test_errors_in_their_order(self):
        for box in bad_for(2):
            self.raised(NoBox, waits_for, TWO, box, 0, (0, 0))
            self.raised(NoBox, waits_for, TWO, box, None, None)
        for table in [1, HUGE, *odd_things()]:
            self.raised(NoTable, waits_for, TWO, (2, 2), table, (0, 0))
            self.raised(NoTable, waits_for, TWO, (HUGE, 2), table, None)
        for point in [(0, 3), (0, HUGE), (-1, 0), (0,), (0, 0, 0), [0, 0], (0, True), (False, 0), 0, *odd_things()]:
            self.raised(NoPoint, waits_for, TWO, (2, 3), 0, point)
            self.raised(NoPoint, waits_for, TWO, (HUGE, 3), 0, point)
        self.raised(TooMany, waits_for, TWO, (HUGE, 3), 0, (0, 2))
        self.raised(TooMany, waits_for, TWO, (5001, 1), 0, (0, 0))
        self.assertEqual(waits_for(TWO, (5000, 1), 0, (1, 0)), [(0, (0, 0))])

    def test_lists_are_new(self):
        waits_for(LINE, (3,), 0, (2,)).append(0)
        self.assertEqual(waits_for(LINE, (3,), 0, (2,)), [(0, (0,)), (0, (1,))])


class Cubes(Cases):
    def test_by_going_through_them(self):
        for program in [*some_programs(7, 150, 2, 5), LINE, TWO, DEEP, ROUND, AHEAD, EMPTY, BOTH, STILL, WIDE_ROUND]:
            greatest = {1: 8, 2: 5, 3: 3, 4: 2}[program.sides]
            for most in range(1, greatest + 1):
                sizes = [n for n in range(1, most + 1) if not works_there(program, (n,) * program.sides)]
                self.assertEqual(least_cube(program, most), min(sizes, default=None))

    def test_rings_that_need_more_room(self):
        for times in range(1, 9):
            for most in range(1, 9):
                self.assertEqual(least_cube(stretched(ROUND, times), most), times + 1 if times < most else None)

    def test_no_number(self):
        for program in (ROUND, GREAT):
            for most in [*BAD_MOST, 9, *odd_things()]:
                self.raised(NoNumber, least_cube, program, most)

    def test_too_many_for_the_greatest_of_the_boxes(self):
        # 8 ** 4 points of one table are no more than 5000, of two tables they are.
        one = Program(4, 1, ((0, 0, (0, 0, 0, 0)),))
        self.assertEqual(least_cube(one, 8), 1)
        self.raised(TooMany, least_cube, beside(one, one), 8)
        self.assertEqual(least_cube(beside(one, one), 7), 1)
        self.raised(TooMany, least_cube, GREAT, 5)
        self.assertIsNone(least_cube(GREAT, 4))
        self.assertIsNone(least_cube(Program(3, 8, ()), 8))


class Waves(Cases):
    def test_example_11(self):
        self.assertEqual(waves(TWO, (2, 2)), [[(0, (0, 0))], [(0, (0, 1)), (0, (1, 0))], [(0, (1, 1))]])

    def test_small_boxes_by_going_through_them(self):
        compared = 0
        for program, box in small_cases(8, 500):
            if not works_there(program, box):
                self.raised(NotWorking, waves, program, box)
                self.raised(NotWorking, turns_with, program, box, 1)
                continue
            compared += 1
            reads = reads_in(program, box)
            places = {}
            for pair in ordered(program, box):
                places[pair] = 1 + max([places[other] for other in reads[pair]], default=-1)
            told = waves(program, box)
            self.assertEqual(told, [sorted(pair for pair in places if places[pair] == k) for k in range(max(places.values()) + 1)])
            self.assertTrue(is_plain(told))
            for workers in (1, 2, 3, len(places), HUGE):
                turns = sum((len(wave) + workers - 1) // workers for wave in told)
                self.assertEqual(turns_with(program, box, workers), turns)
        self.assertGreater(compared, 200)

    def test_no_readings(self):
        self.assertEqual(waves(EMPTY, (3,)), [[(0, (0,)), (0, (1,)), (0, (2,))]])
        self.assertEqual([turns_with(EMPTY, (5,), k) for k in (1, 2, 3, 4, 5, 6)], [5, 3, 2, 2, 1, 1])

    def test_programs_that_work_in_small_boxes_alone(self):
        self.assertEqual(waves(WIDE_ROUND, (2,)), [pairs_in(WIDE_ROUND, (2,))])
        self.raised(NotWorking, waves, WIDE_ROUND, (3,))

    def test_5000_pairs_and_one_more(self):
        for program, box in long_lines():
            told = waves(program, box)
            self.assertEqual([len(wave) for wave in told], [1] * 5000)
            self.assertEqual(turns_with(program, box, 9), 5000)
            wide = (box[0] + 1,) + box[1:]
            self.raised(TooMany, waves, program, wide)
            self.raised(TooMany, turns_with, program, wide, 1)
        # Too many pairs are told ahead of what waits for itself.
        self.raised(TooMany, waves, ROUND, (2501,))
        self.raised(NotWorking, waves, ROUND, (2500,))
        self.raised(TooMany, turns_with, ROUND, (2501,), 1)
        self.raised(NotWorking, turns_with, ROUND, (2500,), 1)

    def test_errors_in_their_order(self):
        for box in bad_for(1):
            self.raised(NoBox, waves, ROUND, box)
            self.raised(NoBox, turns_with, ROUND, box, None)
        for workers in [0, -1, *odd_things()]:
            if not (type(workers) is int and workers > 0):
                self.raised(NoNumber, turns_with, ROUND, (HUGE,), workers)
                self.raised(NoNumber, turns_with, ROUND, (2,), workers)

    def test_lists_are_new_with_those_inside(self):
        first = waves(TWO, (2, 2))
        first[1].clear()
        first.pop()
        self.assertEqual(waves(TWO, (2, 2)), [[(0, (0, 0))], [(0, (0, 1)), (0, (1, 0))], [(0, (1, 1))]])

    def test_great_programs(self):
        chance = random.Random(9)
        for tables, box in ((16, (4, 4, 4, 4)), (1, (8, 5, 5, 25)), (8, (25, 25, 1, 1))):
            program = greatest_in(tables, 48, 2, chance)
            told = waves(program, box)
            self.assertEqual(sum(map(len, told)), len(pairs_in(program, box)))
            places = {pair: k for k, wave in enumerate(told) for pair in wave}
            for pair, there in reads_in(program, box).items():
                self.assertEqual(places[pair], 1 + max([places[other] for other in there], default=-1))
            self.assertEqual(turns_with(program, box, 10), sum(-(-len(wave) // 10) for wave in told))
        self.assertEqual(waves(FULL, (1, 1, 1, 1)), [pairs_in(FULL, (1, 1, 1, 1))])

    def test_what_is_passed_stays(self):
        program, box = line_of(9)
        held = copy.deepcopy(program)
        for call, rest in ((waves, ()), (longest, (0,)), (longest_chain, (0,)), (ring_in, ()), (works_in, ()), (waits_for, (0, (3,)))):
            self.assertEqual(call(program, box, *rest), call(program, box, *rest))
            self.assertEqual(program, held)


if __name__ == "__main__":
    unittest.main()
