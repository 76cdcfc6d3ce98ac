"""Programs and logs read from texts (1.3, 2.4)."""

import copy
import unittest

from things import AHEAD, DEEP, EMPTY, FULL, GREAT, LINE, ROUND, TWO, odd_things
from turnsneeded.errors import BadProgram, BadText, NoLog
from turnsneeded.programs import Program
from turnsneeded.reading import read_log, read_program
from turnsneeded.texts import program_text

WORDS_THAT_ARE_NO_INTEGERS = (
    "", "00", "01", "007", "-0", "-00", "-01", "+1", "+0", "--1", "-", "+", "1-", "1.", "1.0", "1e3", "1_000", "0x1", "one",
    "A", "a", "(1)", "1,", "1(", "1)", "-+1", "- 1", "1\t", "\t1", "1" * 61, "-" + "1" * 61, "0" * 60, "1" * 5000, "'1'")


class ReadProgram(unittest.TestCase):
    def bad_text(self, line, text):
        with self.assertRaises(BadText) as caught:
            read_program(text)
        self.assertEqual((caught.exception.line, type(caught.exception.line)), (line, int))

    def bad_program(self, part, text):
        with self.assertRaises(BadProgram) as caught:
            read_program(text)
        self.assertEqual((caught.exception.part, type(caught.exception.part)), (part, type(part)))

    def test_programs(self):
        for program in (LINE, TWO, DEEP, ROUND, AHEAD, EMPTY, FULL):
            read = read_program(program_text(program))
            self.assertIs(type(read), Program)
            self.assertEqual(read, program)
        self.assertEqual(read_program("sides 1\ntables 1\n"), EMPTY)
        self.assertEqual(read_program("sides 1\ntables 2\n0 1 1\n1 0 -1\n"), ROUND)
        read = read_program("sides 2\ntables 8\n7 7 -1000000000000 1000000000000\n")
        self.assertEqual(read.readings, ((7, 7, (-10 ** 12, 10 ** 12)),))
        self.assertIs(type(read.readings[0][2]), tuple)

    def test_no_string(self):
        for thing in [*odd_things(), b"sides 1\ntables 1\n", ["sides 1\ntables 1\n"], ("sides 1\ntables 1\n",), 0, None]:
            if not isinstance(thing, str):
                self.bad_text(0, thing)

    def test_lines_that_lack(self):
        self.bad_text(1, "")
        self.bad_text(1, "sides 1")
        self.bad_text(1, "nothing")
        self.bad_text(2, "sides 1\n")
        self.bad_text(2, "sides 1\ntables 1")
        self.bad_text(2, "sides 1\n0 0 1")
        self.bad_text(1, "\n")
        self.bad_text(2, "sides 1\n\n")

    def test_what_stands_behind_the_last_line_feed(self):
        self.bad_text(3, "sides 1\ntables 1\n0 0 1")
        self.bad_text(3, "sides 1\ntables 1\n ")
        self.bad_text(4, "sides 1\ntables 1\n0 0 1\nx")
        self.bad_text(4, "sides 9\ntables 1\n0 0 1\n0 0 2")
        self.bad_text(3, "sides 1\ntables 1\n01 0 1\n0 0 2")

    def test_lines_that_stand_where_they_cannot(self):
        for text, line in (("tables 1\nsides 1\n", 1), ("sides 1\nsides 1\n", 2), ("sides 1\ntables 1\ntables 1\n", 3),
                           ("sides 1\ntables 1\nsides 1\n", 3), ("0 0 1\nsides 1\ntables 1\n", 1),
                           ("sides 1\n0 0 1\ntables 1\n", 2), ("sides 1\ntables 1\n0 0 1\ntables 1\n", 4),
                           ("\nsides 1\ntables 1\n", 1), ("sides 1\n\ntables 1\n", 2), ("sides 1\ntables 1\n\n", 3),
                           ("sides 1\ntables 1\n\n0 0 1\n", 3), ("sides 1\ntables 1\n0 0 1\n\n", 4),
                           ("tables 1\n0 0 1\n", 1), ("0 0 1\n", 1), ("tables 1\n", 1), ("sides 1\ntables 1\n0\n", 3)):
            self.bad_text(line, text)

    def test_heads_that_are_not_written_so(self):
        for head in ("Sides 1", "SIDES 1", "side 1", "sides", "sides 1 1", "sides  1", " sides 1", "sides 1 ", "sides\t1",
                     "sides\t 1", "sides1", "sides 1.", "sides one", "1 sides", "1", "", " ", "sides ", "sides -", "sides:1"):
            self.bad_text(1, head + "\ntables 1\n")
            self.bad_text(2, "sides 1\n" + head.replace("side", "table").replace("SIDE", "TABLE") + "\n")
        for word in WORDS_THAT_ARE_NO_INTEGERS:
            self.bad_text(1, f"sides {word}\ntables 1\n")
            self.bad_text(2, f"sides 1\ntables {word}\n0 0 1\n")

    def test_readings_that_are_not_written_so(self):
        for word in WORDS_THAT_ARE_NO_INTEGERS:
            self.bad_text(3, f"sides 1\ntables 1\n{word} 0 1\n")
            self.bad_text(3, f"sides 1\ntables 1\n0 {word} 1\n0 0 2\n")
            self.bad_text(4, f"sides 1\ntables 1\n0 0 1\n0 0 {word}\n")
            self.bad_text(5, f"sides 2\ntables 1\n0 0 1 1\n0 0 2 1\n0 0 {word} 1\n0 0\n")
        for line in ("0  0 1", "0 0  1", " 0 0 1", "0 0 1 ", "0\t0 1", "0 0\t1", "0 0 1\t", "\t0 0 1", " ", "\t", "0,0,1", "0 0 (1)",
                     "reading 0 0 1", "0 0 1 # one", "0", "-1", "001"):
            self.bad_text(3, f"sides 1\ntables 1\n{line}\n")
            self.bad_text(3, f"sides 1\ntables 1\n{line}\n0 0 x\n")

    def test_the_first_line_is_told_and_ahead_of_bad_programs(self):
        self.bad_text(2, "sides 9\ntables 00\n")
        self.bad_text(4, "sides 9\ntables 9\n0 0 1\n0 0 +1\nx\ny")
        self.bad_text(3, "sides 0\ntables 0\nx\n")
        self.bad_text(3, "sides 0\ntables 0\nx")
        self.bad_text(28, "sides 1\ntables 1\n" + "".join(f"0 0 {k}\n" for k in range(25)) + "0 0 00\n")

    def test_sides_and_tables_that_are_no_right_ones(self):
        for word in ("0", "5", "-1", "-10", "9" * 60, "-" + "9" * 60):
            self.bad_program("sides", f"sides {word}\ntables 1\n")
            self.bad_program("sides", f"sides {word}\ntables 0\n9 9\n")
        for word in ("0", "9", "-1", "9" * 60, "-" + "9" * 60):
            self.bad_program("tables", f"sides 1\ntables {word}\n")
            self.bad_program("tables", f"sides 4\ntables {word}\n0 0 1\n")

    def test_readings_that_are_no_right_ones(self):
        many = "".join(f"0 0 {k}\n" for k in range(25))
        self.bad_program("readings", "sides 1\ntables 1\n" + many)
        self.bad_program("readings", "sides 1\ntables 1\n" + "0 0\n" * 4000)
        for line in ("0 0", "0 0 1 1", "0 0 1000000000001", "0 0 -1000000000001", "1 0 1", "0 1 1", "-1 0 1", "0 -1 1",
                     "0 0 " + "9" * 60, "0 0 -" + "9" * 60, "9" * 60 + " 0 1", "0 0 1 2 3 4 5 6 7 8 9"):
            self.bad_program(0, f"sides 1\ntables 1\n{line}\n")
            self.bad_program(1, f"sides 1\ntables 1\n0 0 -5\n{line}\n0 0 -6\n")

    def test_readings_in_another_order(self):
        self.bad_program(1, "sides 1\ntables 1\n0 0 1\n0 0 0\n")
        self.bad_program(1, "sides 1\ntables 1\n0 0 1\n0 0 1\n")
        self.bad_program(2, "sides 1\ntables 2\n0 0 1\n1 0 0\n0 1 0\n")

    def test_sixty_figures_are_written_so(self):
        self.bad_program(0, "sides 1\ntables 1\n0 0 " + "1" * 60 + "\n")
        self.bad_text(3, "sides 1\ntables 1\n0 0 " + "1" * 61 + "\n")
        self.bad_program(0, "sides 1\ntables 1\n0 0 -" + "1" * 60 + "\n")
        self.bad_text(3, "sides 1\ntables 1\n0 0 -" + "1" * 61 + "\n")

    def test_texts_of_some_thousand_lines(self):
        rows = ["0 0 1\n"] * 5000
        self.bad_program("readings", "sides 1\ntables 1\n" + "".join(rows))
        rows[4321] = "0 0 1 \n"
        self.bad_text(4324, "sides 1\ntables 1\n" + "".join(rows))
        self.bad_text(1, "\n" * 9000)
        self.bad_text(3, "sides 1\ntables 1\n" + "\n" * 9000)

    def test_equal_texts_are_read_alike(self):
        text = program_text(DEEP)
        self.assertEqual(read_program(text), read_program("".join(list(text))))


class ReadLog(unittest.TestCase):
    def bad_text(self, line, program, text):
        with self.assertRaises(BadText) as caught:
            read_log(program, text)
        self.assertEqual((caught.exception.line, type(caught.exception.line)), (line, int))

    def no_log(self, program, text):
        with self.assertRaises(NoLog):
            read_log(program, text)

    def test_logs(self):
        self.assertEqual(read_log(LINE, ""), ())
        self.assertEqual(read_log(LINE, "0"), (0,))
        self.assertEqual(read_log(ROUND, "0 1 5( 0 1 ) 2( 3( 0 1 ) 0 1 )"),
                         (0, 1, ("times", 5, (0, 1)), ("times", 2, (("times", 3, (0, 1)), 0, 1))))
        self.assertEqual(read_log(LINE, "1" * 60 + "( 0 )"), (("times", int("1" * 60), (0,)),))

    def test_no_string(self):
        for thing in [*odd_things(), b"0", ["0"], ("0",), 0, None, (0,)]:
            if not isinstance(thing, str):
                for program in (LINE, EMPTY, GREAT):
                    self.bad_text(0, program, thing)

    def test_words_that_are_no_numbers(self):
        for word in WORDS_THAT_ARE_NO_INTEGERS:
            if word != "" and word != "1(":
                for text in (word, f"0 {word}", f"{word} 0", f"2( {word} )", f"{word}( 0 )", f"99 {word}", f"0( {word} )"):
                    self.bad_text(1, LINE, text)
        for text in ("-1", "-5( 0 )", "0 -1", "2( -1 )", "( 0 )", "2 ( 0 )", "2(0)", "2( 0)", "2(0 )", "2()", ")(", "2((", "((",
                     "2[ 0 ]", "0;", "times", "0,0", "A", "2( 0 )1", "2( 0 ))", "2( 0 )2( 0 )"):
            self.bad_text(1, LINE, text)

    def test_blanks_line_feeds_and_tabs(self):
        for text in (" ", "  ", " 0", "0 ", "0  0", "2(  0 )", "2( 0  )", "\n", "0\n", "0\n0", "0 \n 0", "\t", "0\t0", "0\t",
                     "2( 0 ) ", " 2( 0 )"):
            self.bad_text(1, LINE, text)

    def test_brackets_that_do_not_fit(self):
        for text in (")", "0 )", ") 0", "2( 0 ) )", "2( )", "2( 0", "2(", "2( 3( 0 )", "2( 3( ) 0 )", "2( 0 3( ) )", "2( 3( 0 ) ) )",
                     "2( 3( ) )", "0( )", "0 2(", "2( 0 ) 3("):
            self.bad_text(1, LINE, text)

    def test_logs_that_are_none(self):
        for program, text in ((LINE, "1"), (LINE, "9" * 60), (EMPTY, "0"), (ROUND, "0 0"), (ROUND, "2( 0 )"), (LINE, "0( 0 )"),
                              (LINE, "2( 0( 0 ) )"), (LINE, "2( 1 )"), (GREAT, "48"), (ROUND, "0 1 1"), (LINE, "0 0( 0 )")):
            self.no_log(program, text)
        self.no_log(LINE, "2( " * 31 + "0" + " )" * 31)
        self.assertEqual(read_log(ROUND, "1( 0 )"), (("times", 1, (0,)),))

    def test_bad_text_ahead_of_no_log(self):
        self.bad_text(1, LINE, "1 )")
        self.bad_text(1, LINE, "0( 5 ) x")
        self.bad_text(1, EMPTY, "0 2(")
        self.bad_text(1, LINE, "2( " * 31 + "0" + " )" * 30)

    def test_words_that_open_or_close_very_many_rounds(self):
        for many in (31, 1200, 9000):
            self.bad_text(1, LINE, " ".join(["2("] * many))
            self.bad_text(1, LINE, " ".join([")"] * many))
            self.bad_text(1, LINE, " ".join(["2("] * many + [")"] * many))
            self.bad_text(1, LINE, " ".join(["2("] * many + ["0"] + [")"] * (many - 1)))
            self.bad_text(1, LINE, " ".join(["2("] * many + ["0"] + [")"] * (many + 1)))
            self.no_log(LINE, " ".join(["2("] * many + ["0"] + [")"] * many))
            self.no_log(LINE, " ".join(["0", "1(", *["2("] * many, "0", *[")"] * many, ")", "0"]))

    def test_some_thousand_words(self):
        self.assertEqual(read_log(LINE, " ".join(["0"] * 5000)), (0,) * 5000)
        self.assertEqual(read_log(LINE, " ".join(["3( 0 )"] * 2000)), (("times", 3, (0,)),) * 2000)
        self.no_log(LINE, " ".join(["0"] * 5000 + ["1"]))
        self.bad_text(1, LINE, " ".join(["0"] * 5000 + ["x"]))

    def test_what_was_passed_stays_as_it_was(self):
        things = [["0"], {"0": ["0"]}, ([],)]
        before = copy.deepcopy(things)
        for thing in things:
            self.bad_text(0, LINE, thing)
            with self.assertRaises(BadText):
                read_program(thing)
        self.assertEqual(things, before)
        self.assertEqual(read_log(ROUND, "2( 0 1 )"), read_log(ROUND, "2( 0 1 )"))


if __name__ == "__main__":
    unittest.main()
