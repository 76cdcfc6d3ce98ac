"""Programs, and programs made of programs (1.1, 1.2)."""

import copy
import unittest
from itertools import permutations, product

from things import ALL_PROGRAMS, AHEAD, DEEP, EMPTY, FULL, GREAT, LINE, ROUND, TWO, lists_deep, odd_things, tuples_deep
from turnsneeded.errors import (BadProgram, NoLot, NoMatrix, NoNames, NoNumber, NoReading, OtherSides)
from turnsneeded.programs import (Program, alone, also, backward, beside, renamed, stretched, turned, without)

LONG = 10 ** 12
# Steps of more than 80 digits, which only returned programs can have.
LONGEST = stretched(stretched(stretched(stretched(GREAT, LONG), LONG), LONG), LONG)


def told(program):
    return program.sides, program.tables, program.readings


class Parts(unittest.TestCase):
    """What a program may be constructed with (1.1)."""

    def bad(self, part, *passed):
        with self.assertRaises(BadProgram) as caught:
            Program(*passed)
        self.assertEqual(caught.exception.part, part)
        self.assertIs(type(caught.exception.part), type(part))

    def test_a_program_keeps_its_three_attributes(self):
        for sides in (1, 2, 3, 4):
            for tables in (1, 2, 7, 8):
                step = (5, -6, 7, -8)[:sides]
                readings = ((0, 0, step), (tables - 1, tables - 1, (6,) + step[1:]))
                program = Program(sides, tables, readings)
                self.assertEqual(told(program), (sides, tables, readings))
                self.assertEqual(list(vars(program)), ["sides", "tables", "readings"])
                for attribute, kind in zip(told(program), (int, int, tuple)):
                    self.assertIs(type(attribute), kind)

    def test_a_program_may_have_no_readings(self):
        self.assertEqual(told(Program(3, 8, ())), (3, 8, ()))

    def test_sides(self):
        for sides in [0, 5, -1, 10 ** 79, *odd_things()]:
            self.bad("sides", sides, 1, ())
            self.bad("sides", sides, None, None)
            self.bad("sides", sides, 0, [(0, 0, (1,))])

    def test_tables(self):
        for tables in [0, 9, -1, 10 ** 79, *odd_things()]:
            self.bad("tables", 1, tables, ())
            self.bad("tables", 1, tables, None)
            self.bad("tables", 4, tables, (None,))

    def test_readings_that_are_no_tuple_of_at_most_24(self):
        for readings in odd_things():
            if not isinstance(readings, tuple) or len(readings) > 24:
                self.bad("readings", 1, 1, readings)
        many = [(0, 0, (k,)) for k in range(25)]
        self.bad("readings", 1, 1, many[:1])
        self.bad("readings", 1, 1, tuple(many))
        self.bad("readings", 1, 1, (None,) * 25)
        self.assertEqual(Program(1, 1, tuple(many[:24])).readings, tuple(many[:24]))

    def test_an_item_that_is_no_reading(self):
        right = (0, 1, (2, 3))
        for thing in odd_things():
            self.bad(0, 2, 2, (thing,))
            self.bad(1, 2, 2, (right, thing))
            self.bad(1, 2, 2, (right, thing, right))
            self.bad(1, 2, 2, (right, (thing, 1, (2, 3))))
            self.bad(1, 2, 2, (right, (1, thing, (2, 3))))
            self.bad(1, 2, 2, (right, (1, 1, thing)))
            if type(thing) is not int or abs(thing) > LONG:
                self.bad(1, 2, 2, (right, (1, 1, (2, thing))))
                self.bad(1, 2, 2, (right, (1, 1, (thing, 2))))

    def test_an_item_of_another_shape(self):
        for item in ([0, 0, (1,)], (0, 0, [1]), (0, 0), (0, 0, (1,), 0), (0, 0, 1), (0, (1,), 0), "00(", b"001",
                     (False, 0, (1,)), (0, False, (1,)), (0, 0, (True,)), (0, 0, (False,)), {0: 0, 1: 0, 2: (1,)},
                     (1, 0, (1,)), (0, 1, (1,)), (-1, 0, (1,)), (0, -1, (1,)), (0, 0, ()), (0, 0, (1, 1)), (0, 0, ("1",)),
                     (0, 0, tuples_deep(78)), (0, 0, lists_deep(78)), (0, 0, (None,) * 9990), None):
            self.bad(0, 1, 1, (item,))
            self.bad(1, 1, 1, ((0, 0, (-5,)), item, None))

    def test_steps_too_long_and_just_not_too_long(self):
        for many in (LONG, -LONG):
            self.assertEqual(Program(1, 1, ((0, 0, (many,)),)).readings, ((0, 0, (many,)),))
        for many in (LONG + 1, -LONG - 1, 10 ** 79):
            self.bad(0, 1, 1, ((0, 0, (many,)),))
            self.bad(0, 2, 1, ((0, 0, (0, many)),))
            self.bad(0, 2, 1, ((0, 0, (many, 0)),))

    def test_tables_of_readings_up_to_the_last(self):
        self.assertEqual(Program(1, 8, ((7, 7, (0,)),)).tables, 8)
        self.bad(0, 1, 7, ((7, 6, (0,)),))
        self.bad(0, 1, 7, ((6, 7, (0,)),))

    def test_readings_out_of_order_and_twice(self):
        rows = [(0, 0, (-1,)), (0, 0, (1,)), (0, 1, (-1,)), (1, 0, (-7,)), (1, 1, (-9,))]
        for order in permutations(rows):
            falls = [k for k in range(1, 5) if order[k] < order[k - 1]]
            if falls:
                self.bad(falls[0], 1, 2, order)
            else:
                self.assertEqual(Program(1, 2, order).readings, order)
        for k in range(5):
            self.bad(k + 1, 1, 2, tuple(sorted(rows + [rows[k]])))

    def test_the_first_wrong_item_is_told(self):
        wrong = (0, 0, (True,))
        self.bad(2, 1, 1, ((0, 0, (1,)), (0, 0, (2,)), wrong, (0, 0, (0,)), (0, 0, (0,))))
        self.bad(1, 1, 1, ((0, 0, (1,)), (0, 0, (0,)), wrong))
        self.bad(0, 1, 1, (wrong, (0, 0, (1,)), (0, 0, (1,))))

    def test_nothing_of_a_wrong_program_stays_changed(self):
        things = [[0, 0, [1]], {"a": [1]}, lists_deep(70)]
        before = copy.deepcopy(things)
        for thing in things:
            for passed in ((thing, 1, ()), (1, thing, ()), (1, 1, thing), (1, 1, (thing,)), (1, 1, ((0, 0, thing),))):
                with self.assertRaises(BadProgram):
                    Program(*passed)
        self.assertEqual(things, before)


class Equality(unittest.TestCase):
    def test_programs_are_equal_just_if_all_three_are(self):
        programs = [Program(1, 1, ()), Program(2, 1, ()), Program(1, 2, ()), LINE, AHEAD, ROUND, TWO, DEEP, FULL,
                    Program(1, 2, LINE.readings), GREAT]
        for j, one in enumerate(programs):
            for k, other in enumerate(programs):
                self.assertIs(one == other, j == k)
                self.assertIs(one != other, j != k)

    def test_programs_made_apart_are_equal(self):
        self.assertEqual(Program(1, 2, ((0, 1, (1,)), (1, 0, (-1,)))), ROUND)
        self.assertFalse(Program(1, 2, ((0, 1, (1,)), (1, 0, (-1,)))) != ROUND)
        self.assertEqual(beside(stretched(FULL, LONG), stretched(FULL, LONG)), stretched(beside(FULL, FULL), LONG))

    def test_programs_are_equal_to_nothing_else(self):
        for program in (EMPTY, LINE, GREAT):
            for thing in [*odd_things(), told(program), list(told(program)), program.readings, vars(program)]:
                if not isinstance(thing, Program):
                    self.assertIs(program == thing, False)
                    self.assertIs(thing == program, False)
                    self.assertIs(program != thing, True)


class Made(unittest.TestCase):
    """Programs made of programs (1.2): each is compared with the words of the point."""

    def same(self, program, sides, tables, readings):
        self.assertIs(type(program), Program)
        self.assertEqual(told(program), (sides, tables, tuple(sorted(readings))))
        self.assertIs(type(program.readings), tuple)
        self.assertEqual(len(set(program.readings)), len(program.readings))

    def test_renamed(self):
        self.assertEqual(renamed(DEEP, (1, 0)).readings,
                         ((0, 0, (0, -1)), (0, 1, (1, 0)), (1, 0, (0, 0)), (1, 1, (0, 1))))
        self.assertEqual(renamed(ROUND, (0, 1)), ROUND)
        three = Program(1, 3, ((0, 1, (5,)), (1, 2, (6,)), (2, 2, (-7,))))
        self.assertEqual(renamed(three, (2, 0, 1)).readings, ((0, 1, (6,)), (1, 1, (-7,)), (2, 0, (5,))))
        for names in permutations(range(3)):
            self.same(renamed(three, names), 1, 3, [(names[x], names[y], s) for x, y, s in three.readings])

    def test_renamed_great(self):
        for names in (tuple(range(16)), tuple(range(15, -1, -1)), tuple((k * 7) % 16 for k in range(16))):
            for program in (GREAT, LONGEST):
                self.same(renamed(program, names), 4, 16, [(names[x], names[y], s) for x, y, s in program.readings])

    def test_renamed_no_names(self):
        for names in [*odd_things(), (), (0,), (0, 0), (1, 1), (0, 2), (1, 2), (-1, 0), (0, 1, 2), (0, 1, 0), (True, 0),
                      (False, 1), [0, 1], [1, 0], "01", b"\0\1", range(2), {0: 0, 1: 1}, (0, (1,)), (0, None), ("0", "1")]:
            with self.assertRaises(NoNames):
                renamed(DEEP, names)
        with self.assertRaises(NoNames):
            renamed(GREAT, tuple(range(15)))
        with self.assertRaises(NoNames):
            renamed(EMPTY, (False,))

    def test_backward(self):
        self.assertEqual(backward(LINE), AHEAD)
        self.assertEqual(backward(ROUND).readings, ((0, 1, (1,)), (1, 0, (-1,))))
        self.assertEqual(backward(DEEP).readings, ((0, 0, (0, -1)), (0, 1, (-1, 0)), (1, 0, (0, 0)), (1, 1, (0, 1))))
        for program in ALL_PROGRAMS + (LONGEST,):
            back = backward(program)
            self.same(back, program.sides, program.tables,
                      [(y, x, tuple(-n for n in s)) for x, y, s in program.readings])
            self.assertEqual(backward(back), program)

    def test_turned(self):
        self.assertEqual(turned(TWO, ((1, 2), (0, 1))).readings, ((0, 0, (1, 0)), (0, 0, (2, 1))))
        self.assertEqual(turned(TWO, ((0, 1), (1, 0))), TWO)
        self.assertEqual(turned(LINE, ((-1,),)), AHEAD)
        self.assertEqual(turned(DEEP, ((2, 3), (1, 1))).readings,
                         ((0, 0, (3, 1)), (0, 1, (0, 0)), (1, 0, (2, 1)), (1, 1, (-3, -1))))
        three = Program(3, 1, ((0, 0, (1, 10, 100)),))
        self.assertEqual(turned(three, ((1, 2, 3), (0, 1, 4), (0, 0, 1))).readings, ((0, 0, (321, 410, 100)),))
        self.assertEqual(turned(three, ((0, 0, 1), (1, 0, 0), (0, 1, 0))).readings, ((0, 0, (100, 1, 10)),))

    def test_turned_four_sides(self):
        rows = ((1, 0, 0, 0), (0, 1, 0, 0), (0, 0, 1, 0), (0, 0, 0, 1))
        for order in permutations(rows):
            places = [row.index(1) for row in order]
            self.same(turned(GREAT, order), 4, 16,
                      [(x, y, tuple(s[k] for k in places)) for x, y, s in GREAT.readings])
        matrix = ((2, 1, 0, 0), (1, 1, 0, 0), (10 ** 79, -5, 3, 2), (7, 0, 4, 3))
        self.same(turned(LONGEST, matrix), 4, 16,
                  [(x, y, tuple(sum(a * b for a, b in zip(row, s)) for row in matrix)) for x, y, s in LONGEST.readings])

    def test_turned_by_determinants(self):
        for a, b, c, d in product((-2, -1, 0, 1, 2), repeat=4):
            if a * d - b * c in (1, -1):
                self.same(turned(TWO, ((a, b), (c, d))), 2, 1, [(0, 0, (b, d)), (0, 0, (a, c))])
            else:
                with self.assertRaises(NoMatrix):
                    turned(TWO, ((a, b), (c, d)))

    def test_turned_by_determinants_of_three_and_four(self):
        three = Program(3, 1, ())
        for (a, b, c), (d, e, f) in product(product((-1, 0, 1, 2), repeat=3), repeat=2):
            matrix = ((a, b, c), (d, e, f), (1, 2, -1))
            self.judged(three, matrix, a * (-e - 2 * f) - b * (-d - f) + c * (2 * d - e))
        four = Program(4, 1, ())
        self.judged(four, ((1, 2, 3, 4), (0, 1, 5, 6), (0, 0, 1, 7), (0, 0, 0, -1)), -1)
        self.judged(four, ((1, 2, 3, 4), (0, 1, 5, 6), (0, 0, 2, 7), (0, 0, 0, 1)), 2)
        self.judged(four, ((1, 2, 3, 4), (5, 6, 7, 8), (9, 10, 11, 12), (13, 14, 15, 16)), 0)
        self.judged(four, ((0, 0, 0, 1), (0, 0, 1, 0), (0, 1, 0, 0), (-1, 0, 0, 0)), -1)
        self.judged(four, ((1, 1, 1, 1), (1, 2, 3, 4), (1, 3, 6, 10), (1, 4, 10, 20)), 1)
        self.judged(four, ((1, 1, 1, 1), (1, 2, 3, 4), (1, 3, 6, 10), (1, 4, 10, 21)), 2)

    def judged(self, program, matrix, determinant):
        if determinant in (1, -1):
            self.assertEqual(turned(program, matrix), program)
        else:
            with self.assertRaises(NoMatrix):
                turned(program, matrix)

    def test_turned_no_matrix(self):
        for matrix in [*odd_things(), (), ((1, 0),), ((1, 0), (0, 1), (0, 0)), ((1, 0), (0,)), ((1,), (0, 1)), (1, 0, 0, 1),
                       ((1, 0, 0), (0, 1, 0)), [(1, 0), (0, 1)], ([1, 0], (0, 1)), ((1, 0), [0, 1]), ((1, 0), None),
                       ((True, 0), (0, 1)), ((1, False), (0, 1)), ((1, 0), (0, True)), ((1, 0), (0, "1")),
                       ((1, 0), (0, 2)), ((1, 1), (1, 1)), ((0, 0), (0, 0)), ((1, 0), (0, (1,))), "10"]:
            with self.assertRaises(NoMatrix):
                turned(TWO, matrix)
        for matrix in ([(1,)], ([1],), ((True,),), ((2,),), ((0,),), ((1, 0),), (1,)):
            with self.assertRaises(NoMatrix):
                turned(LINE, matrix)

    def test_stretched(self):
        self.assertEqual(stretched(LINE, 1), LINE)
        self.assertEqual(stretched(DEEP, 3).readings, ((0, 0, (0, 3)), (0, 1, (0, 0)), (1, 0, (3, 0)), (1, 1, (0, -3))))
        for program in ALL_PROGRAMS + (LONGEST,):
            for times in (1, 2, LONG - 1, LONG):
                self.same(stretched(program, times), program.sides, program.tables,
                          [(x, y, tuple(n * times for n in s)) for x, y, s in program.readings])

    def test_stretched_no_number(self):
        for times in [*odd_things(), 0, -1, LONG + 1, 10 ** 79, True, "1", (1,), [1], None]:
            with self.assertRaises(NoNumber):
                stretched(LINE, times)

    def test_beside(self):
        self.assertEqual(told(beside(LINE, ROUND)), (1, 3, ((0, 0, (1,)), (1, 2, (1,)), (2, 1, (-1,)))))
        self.assertEqual(told(beside(ROUND, LINE)), (1, 3, ((0, 1, (1,)), (1, 0, (-1,)), (2, 2, (1,)))))
        self.assertEqual(told(beside(EMPTY, EMPTY)), (1, 2, ()))
        both = beside(FULL, FULL)
        self.assertEqual((both.sides, both.tables, len(both.readings)), (4, 16, 48))
        self.assertEqual(both.readings, FULL.readings + tuple((x + 8, y + 8, s) for x, y, s in FULL.readings))
        more = beside(GREAT, LONGEST)
        self.same(more, 4, 32, list(GREAT.readings) + [(x + 16, y + 16, s) for x, y, s in LONGEST.readings])

    def test_beside_other_sides(self):
        for one, other in ((LINE, TWO), (TWO, LINE), (GREAT, LINE), (DEEP, FULL)):
            with self.assertRaises(OtherSides):
                beside(one, other)

    def test_without_and_alone(self):
        rows = DEEP.readings
        for flags in product((False, True), repeat=4):
            lot = tuple(k for k in range(4) if flags[k])
            rest = tuple(k for k in range(4) if not flags[k])
            self.same(alone(DEEP, lot), 2, 2, [rows[k] for k in lot])
            self.same(without(DEEP, lot), 2, 2, [rows[k] for k in rest])
            self.assertEqual(without(DEEP, lot), alone(DEEP, rest))

    def test_without_and_alone_of_great_programs(self):
        for program in (GREAT, LONGEST):
            for lot in ((), (47,), (0, 5, 46), tuple(range(48)), tuple(range(1, 48))):
                self.same(alone(program, lot), 4, 16, [program.readings[k] for k in lot])
                self.same(without(program, lot), 4, 16, [r for k, r in enumerate(program.readings) if k not in lot])
        self.assertEqual(without(EMPTY, ()), EMPTY)
        self.assertEqual(alone(EMPTY, ()), EMPTY)

    def test_without_and_alone_no_lot(self):
        wrong = [*odd_things(), (4,), (-1,), (0, 4), (0, 0), (1, 0), (0, 2, 1), (0, 1, 1), (True,), (0, True), (False,),
                 [0], [], "", {}, range(2), None, 0, (0, "1"), (0, (1,)), (0, 1, 2, 3, 4), (-1, 0)]
        for lot in wrong:
            for made in (without, alone):
                if lot != ():
                    with self.assertRaises(NoLot):
                        made(DEEP, lot)
        for made in (without, alone):
            with self.assertRaises(NoLot):
                made(EMPTY, (0,))
            with self.assertRaises(NoLot):
                made(GREAT, (48,))

    def test_also(self):
        self.assertEqual(also(LINE, (0, 0, (-1,))).readings, ((0, 0, (-1,)), (0, 0, (1,))))
        self.assertEqual(also(LINE, (0, 0, (2,))).readings, ((0, 0, (1,)), (0, 0, (2,))))
        self.assertEqual(also(EMPTY, (0, 0, (0,))).readings, ((0, 0, (0,)),))
        self.assertEqual(also(DEEP, (0, 1, (-4, 4))).readings,
                         ((0, 0, (0, 1)), (0, 1, (-4, 4)), (0, 1, (0, 0)), (1, 0, (1, 0)), (1, 1, (0, -1))))
        for many in (LONG, -LONG):
            self.assertIn((0, 0, (many,)), also(LINE, (0, 0, (many,))).readings)

    def test_also_a_reading_that_is_there(self):
        for program in ALL_PROGRAMS:
            for reading in program.readings:
                if all(abs(part) <= LONG for part in reading[2]):
                    self.assertEqual(also(program, reading), program)

    def test_also_a_reading_with_too_long_a_step(self):
        # Returned programs may have such steps; what is passed is judged as where a program is constructed (1.1).
        for many in (LONG + 1, -LONG - 1, 10 ** 79, -10 ** 79):
            with self.assertRaises(NoReading):
                also(LINE, (0, 0, (many,)))
            for side in range(4):
                step = tuple(many if k == side else 1 for k in range(4))
                for program in (FULL, GREAT, LONGEST):
                    with self.assertRaises(NoReading):
                        also(program, (0, 7, step))
        for program in (GREAT, LONGEST):
            for reading in program.readings:
                if any(abs(part) > LONG for part in reading[2]):
                    with self.assertRaises(NoReading):
                        also(program, reading)

    def test_also_to_a_program_with_longer_steps(self):
        for program in (GREAT, LONGEST):
            for step in ((LONG, -LONG, LONG, -LONG), (0, 0, 0, 1)):
                self.same(also(program, (15, 0, step)), 4, 16, [*program.readings, (15, 0, step)])

    def test_also_beyond_what_may_be_constructed(self):
        more = also(FULL, (7, 7, (0, 0, 0, 0)))
        self.same(more, 4, 8, list(FULL.readings) + [(7, 7, (0, 0, 0, 0))])
        self.assertEqual(len(more.readings), 25)
        self.same(also(GREAT, (15, 0, (1, 2, 3, 4))), 4, 16, list(GREAT.readings) + [(15, 0, (1, 2, 3, 4))])

    def test_also_no_reading(self):
        for reading in [*odd_things(), [0, 0, (1,)], (0, 0, [1]), (0, 0), (0, 0, (1,), 0), (0, 0, 1), (0, 0, ()),
                        (0, 0, (1, 1)), (1, 0, (1,)), (0, 1, (1,)), (-1, 0, (1,)), (0, -1, (1,)), (False, 0, (1,)),
                        (0, False, (1,)), (0, 0, (True,)), (0, 0, ("1",)), (0, 0, None), (0, 0, tuples_deep(78))]:
            with self.assertRaises(NoReading):
                also(LINE, reading)
        with self.assertRaises(NoReading):
            also(GREAT, (16, 0, (0, 0, 0, 0)))

    def test_what_was_passed_stays_as_it_was(self):
        for program in ALL_PROGRAMS:
            before = copy.deepcopy(told(program))
            whole = tuple(range(len(program.readings)))
            backward(program)
            stretched(program, 7)
            without(program, whole)
            alone(program, whole)
            beside(program, program)
            renamed(program, tuple(range(program.tables))[::-1])
            also(program, (0, 0, (99,) * program.sides))
            turned(program, tuple(tuple(-1 if j == k else 0 for j in range(program.sides)) for k in range(program.sides)))
            self.assertEqual(told(program), before)

    def test_wrong_things_stay_as_they_were(self):
        calls = ((renamed, NoNames), (turned, NoMatrix), (stretched, NoNumber), (without, NoLot), (alone, NoLot),
                 (also, NoReading))
        for made, error in calls:
            things = [[0], [[1]], {"a": [1]}, ([0], [1]), (0, 0, [1])]
            before = copy.deepcopy(things)
            for thing in things:
                with self.assertRaises(error):
                    made(LINE, thing)
            self.assertEqual(things, before)


if __name__ == "__main__":
    unittest.main()
