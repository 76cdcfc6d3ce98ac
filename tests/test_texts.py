"""Programs and logs told as texts (1.3, 2.4), and read back where they may be."""

import copy
import random
import sys
import unittest

from things import (ALL_PROGRAMS, AHEAD, DEEP, EMPTY, FULL, GREAT, LINE, ROUND, TWO, odd_things, rounds_deep)
from turnsneeded.errors import BadProgram, BadText, NoLog
from turnsneeded.logs import is_log
from turnsneeded.programs import Program, also, beside, stretched, turned
from turnsneeded.reading import read_log, read_program
from turnsneeded.texts import log_text, program_text

LONG = 10 ** 12
HUGE = 10 ** 60


def some_programs(many):
    chance = random.Random(11)
    programs = []
    for _ in range(many):
        sides = chance.randint(1, 4)
        tables = chance.randint(1, 8)
        far = chance.choice((1, 9, LONG))
        readings = {(chance.randrange(tables), chance.randrange(tables),
                     tuple(chance.randint(-far, far) for _ in range(sides))) for _ in range(chance.randint(0, 24))}
        programs.append(Program(sides, tables, tuple(sorted(readings))))
    return programs


def text_of(program):
    """The words of 1.3, by Python's own writing of integers."""
    lines = [f"sides {program.sides}", f"tables {program.tables}"]
    lines += [" ".join(map(str, (x, y, *step))) for x, y, step in program.readings]
    return "".join(line + "\n" for line in lines)


class ProgramText(unittest.TestCase):
    def test_example_e12(self):
        self.assertEqual((program_text(LINE), log_text(LINE, (0, ("times", 2, (0,))))),
                         ("sides 1\ntables 1\n0 0 1\n", "0 2( 0 )"))

    def test_line_by_line(self):
        self.assertEqual(program_text(EMPTY), "sides 1\ntables 1\n")
        self.assertEqual(program_text(Program(4, 8, ())), "sides 4\ntables 8\n")
        self.assertEqual(program_text(AHEAD), "sides 1\ntables 1\n0 0 -1\n")
        self.assertEqual(program_text(ROUND), "sides 1\ntables 2\n0 1 1\n1 0 -1\n")
        self.assertEqual(program_text(DEEP), "sides 2\ntables 2\n0 0 0 1\n0 1 0 0\n1 0 1 0\n1 1 0 -1\n")
        far = Program(3, 7, ((0, 6, (-LONG, 0, LONG)), (6, 0, (10, -20, 300))))
        self.assertEqual(program_text(far),
                         "sides 3\ntables 7\n0 6 -1000000000000 0 1000000000000\n6 0 10 -20 300\n")

    def test_many_programs(self):
        for program in some_programs(300):
            self.assertEqual(program_text(program), text_of(program))
            self.assertEqual(read_program(program_text(program)), program)

    def test_programs_that_were_returned(self):
        wide = beside(FULL, FULL)
        self.assertEqual(program_text(wide), text_of(wide))
        self.assertEqual(program_text(wide).splitlines()[:2], ["sides 4", "tables 16"])
        self.assertEqual(len(program_text(wide).splitlines()), 50)
        self.assertEqual(program_text(GREAT), text_of(GREAT))
        self.assertIn("\n15 15", program_text(also(wide, (15, 15, (0, 0, 0, 0)))))
        long = stretched(stretched(AHEAD, LONG), LONG)
        self.assertEqual(program_text(long), "sides 1\ntables 1\n0 0 -1000000000000000000000000\n")

    def test_steps_longer_than_python_writes(self):
        program = Program(2, 1, ((0, 0, (-3, 7)),))
        for _ in range(400):
            program = stretched(program, LONG)
        self.assertGreater(4801, sys.get_int_max_str_digits())
        noughts = "0" * 4800
        self.assertEqual(program_text(program), f"sides 2\ntables 1\n0 0 -3{noughts} 7{noughts}\n")
        turn = turned(program, ((1, 0), (1, 1)))
        self.assertEqual(program_text(turn), f"sides 2\ntables 1\n0 0 -3{noughts} 4{noughts}\n")
        ones = Program(1, 1, ((0, 0, (1,)),))
        ones.readings = ((0, 0, ((10 ** 6000 - 1) // 9 * 7,)),)
        self.assertEqual(program_text(ones), "sides 1\ntables 1\n0 0 " + "7" * 6000 + "\n")

    def test_unlike_programs_have_unlike_texts(self):
        programs = []
        for program in [*some_programs(200), *ALL_PROGRAMS, beside(LINE, LINE), stretched(LINE, 10), stretched(LINE, 100),
                        Program(1, 2, LINE.readings), Program(1, 8, ((0, 1, (1,)),)), Program(2, 8, ((0, 1, (1, 0)),)),
                        Program(1, 8, ((0, 1, (10,)),)), Program(2, 1, ()), Program(1, 2, ())]:
            if program not in programs:
                programs.append(program)
        self.assertGreater(len(programs), 190)
        self.assertEqual(len({program_text(program) for program in programs}), len(programs))

    def test_returned_programs_are_read_as_bad_ones(self):
        wide = beside(FULL, FULL)
        more = also(FULL, (7, 7, (0, 0, 0, 0)))
        for program, part in ((wide, "tables"), (GREAT, "tables"), (more, "readings"), (stretched(LINE, LONG), None),
                              (stretched(stretched(LINE, LONG), 2), 0), (beside(stretched(LINE, LONG), LINE), None),
                              (stretched(beside(EMPTY, ROUND), LONG), None),
                              (stretched(Program(1, 1, ((0, 0, (0,)), (0, 0, (2,)))), LONG), 1)):
            if part is None:
                self.assertEqual(read_program(program_text(program)), program)
            else:
                with self.assertRaises(BadProgram) as caught:
                    read_program(program_text(program))
                self.assertEqual(caught.exception.part, part)


class LogText(unittest.TestCase):
    def both(self, program, log, text):
        self.assertEqual(log_text(program, log), text)
        self.assertEqual(read_log(program, text), log)

    def test_logs(self):
        self.both(LINE, (), "")
        self.both(EMPTY, (), "")
        self.both(LINE, (0,), "0")
        self.both(LINE, (0, 0, 0), "0 0 0")
        self.both(ROUND, (0, ("times", 3, (1, 0)), 1), "0 3( 1 0 ) 1")
        self.both(LINE, (("times", 1, (0,)),), "1( 0 )")
        self.both(LINE, (("times", 10, (("times", 7, (0,)), 0)), ("times", 2, (0, 0))), "10( 7( 0 ) 0 ) 2( 0 0 )")
        self.both(LINE, (("times", 2, (("times", 3, (("times", 4, (0,)),)),)),), "2( 3( 4( 0 ) ) )")
        self.both(TWO, (1, 0, ("times", HUGE - 1, (1,))), "1 0 " + "9" * 60 + "( 1 )")
        self.both(FULL, (9, ("times", 5, (9,))), "9 5( 9 )")

    def test_thirty_deep(self):
        self.both(LINE, rounds_deep(30), "2( " * 30 + "0" + " )" * 30)
        self.both(ROUND, rounds_deep(30, 12, (1, 0)), "12( " * 30 + "1 0" + " )" * 30)

    def test_some_hundred_items(self):
        self.both(ROUND, (0, 1) * 400, " ".join(["0 1"] * 400))
        self.both(ROUND, (("times", 4, (0, 1)), 0, 1) * 200, " ".join(["4( 0 1 ) 0 1"] * 200))
        self.both(LINE, rounds_deep(30) * 20, " ".join(["2( " * 30 + "0" + " )" * 30] * 20))

    def test_great_programs(self):
        loops = [k for k, reading in enumerate(GREAT.readings) if reading[0] == reading[1]]
        for k in loops:
            self.both(GREAT, (k, ("times", 2, (k,))), f"{k} 2( {k} )")
        self.both(GREAT, (47,), "47")

    def test_rounds_of_very_many_times_are_written_and_not_read_back(self):
        for many in (HUGE, HUGE + 7, 10 ** 79, 10 ** 5000 + 3):
            text = log_text(LINE, (("times", many, (0,)),))
            self.assertEqual(text.count("0( 0 )") + text.count("7( 0 )") + text.count("3( 0 )"), 1)
            with self.assertRaises(BadText) as caught:
                read_log(LINE, text)
            self.assertEqual(caught.exception.line, 1)
        self.assertEqual(log_text(LINE, (("times", HUGE, (0,)),)), "1" + "0" * 60 + "( 0 )")
        self.assertEqual(log_text(LINE, (("times", 10 ** 5000 + 3, (0,)),)), "1" + "0" * 4999 + "3( 0 )")
        self.assertEqual(log_text(LINE, (("times", 10 ** 192, (0,)),)), "1" + "0" * 192 + "( 0 )")

    def test_some_logs(self):
        chance = random.Random(3)

        def some_log(deep, least):
            items = []
            for _ in range(chance.randint(least, 4)):
                if deep > 0 and chance.random() < 0.5:
                    items.append(("times", chance.choice((1, 2, 30, HUGE - 1)), some_log(deep - 1, 1)))
                else:
                    items.append(chance.randrange(2))
            return tuple(items)

        for _ in range(300):
            log = some_log(4, 0)
            self.assertTrue(is_log(TWO, log))
            self.assertEqual(read_log(TWO, log_text(TWO, log)), log)

    def test_no_log(self):
        for thing in odd_things():
            for program in (EMPTY, ROUND, GREAT):
                if is_log(program, thing):
                    self.assertIs(type(log_text(program, thing)), str)
                else:
                    with self.assertRaises(NoLog):
                        log_text(program, thing)
        for program, thing in ((LINE, [0]), (LINE, (1,)), (LINE, (True,)), (LINE, None), (LINE, "0"), (ROUND, (0, 0)),
                               (ROUND, (("times", 2, (0,)),)), (LINE, (("times", 0, (0,)),)), (LINE, rounds_deep(31)),
                               (LINE, (("times", 2, ()),)), (EMPTY, (0,)), (LINE, (("times", True, (0,)),))):
            with self.assertRaises(NoLog):
                log_text(program, thing)

    def test_what_was_passed_stays_as_it_was(self):
        log = (0, ("times", 3, (1, ("times", 2, (0, 1)), 0)), 1)
        kept = copy.deepcopy(log)
        things = [[0], (("times", 2, [0]),), {"a": []}]
        before = copy.deepcopy(things)
        for _ in range(2):
            self.assertEqual(log_text(ROUND, log), "0 3( 1 2( 0 1 ) 0 ) 1")
            for thing in things:
                with self.assertRaises(NoLog):
                    log_text(ROUND, thing)
        self.assertEqual(log, kept)
        self.assertEqual(things, before)
        self.assertEqual(program_text(ROUND), program_text(Program(1, 2, ((0, 1, (1,)), (1, 0, (-1,))))))


if __name__ == "__main__":
    unittest.main()
