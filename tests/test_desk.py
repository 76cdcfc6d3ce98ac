"""The desk (12.1 and 12.2)."""

import random
import unittest

from cells import HUGE
from things import AHEAD, BOTH, DEEP, EMPTY, FULL, LINE, ROUND, TWO, odd_things
from turnsneeded.boxes import longest
from turnsneeded.desk import Desk
from turnsneeded.errors import BadProgram, BadText, NoBox, NoLine, NoName, NothingDone, NoTable, NotWorking, TooMany
from turnsneeded.flows import kept
from turnsneeded.levels import depths, parts, works
from turnsneeded.logs import is_turn
from turnsneeded.programs import Program
from turnsneeded.reading import read_log
from turnsneeded.texts import program_text
from waiting import LONG, WORLDS, nest, some_programs

NAMES = ("a", "b", "line", "eightabc")


def text_of(program):
    return program_text(program).replace("\n", "|")


def desk_with(**programs):
    desk = Desk()
    for name, program in programs.items():
        desk.tell(f"program {name} {text_of(program)}")
    return desk


class Cases(unittest.TestCase):
    def raised(self, desk, error, line, field=None, told=None):
        """Whether a line raises an error and changes nothing."""
        held = self.state(desk)
        with self.assertRaises(error) as caught:
            desk.tell(line)
        self.assertIs(type(caught.exception), error)
        if field is not None:
            self.assertEqual(getattr(caught.exception, field), told)
        self.assertEqual(self.state(desk), held)

    def state(self, desk):
        names = desk.tell("names")
        shown = [] if names == "none" else [desk.tell(f"show {name}") for name in names.split(" ")]
        return names, shown, desk.undoable()


class Lines(Cases):
    def test_program_drop_names_and_show(self):
        desk = Desk()
        self.assertEqual(desk.tell("names"), "none")
        self.assertEqual(desk.tell("program line sides 1|tables 1|0 0 1|"), "ok")
        self.assertEqual(desk.tell("program b sides 2|tables 1|"), "ok")
        self.assertEqual(desk.tell("program eightabc sides 1|tables 8|"), "ok")
        self.assertEqual(desk.tell("names"), "b eightabc line")
        self.assertEqual(desk.tell("show line"), "sides 1|tables 1|0 0 1|")
        self.assertEqual(desk.tell("show b"), "sides 2|tables 1|")
        self.assertEqual(desk.tell("program b sides 1|tables 1|"), "ok")
        self.assertEqual((desk.tell("show b"), desk.tell("names")), ("sides 1|tables 1|", "b eightabc line"))
        self.assertEqual(desk.tell("drop b"), "ok")
        self.assertEqual(desk.tell("names"), "eightabc line")
        desk.tell("drop line")
        desk.tell("drop eightabc")
        self.assertEqual(desk.tell("names"), "none")

    def test_what_is_told_of_a_program(self):
        for program in [LINE, TWO, DEEP, ROUND, AHEAD, EMPTY, BOTH, FULL, nest(4, 4), *some_programs(1, 60)]:
            desk = desk_with(p=program)
            everything = tuple(range(len(program.readings)))
            self.assertEqual(desk.tell("show p"), text_of(program))
            for world in WORLDS:
                self.assertEqual(desk.tell(f"works p {world}"), "yes" if works(program, world) else "no")
                counts = depths(program, world)
                self.assertEqual(desk.tell(f"depths p {world}"), "turn" if counts is None else " ".join(map(str, counts)))
                self.assertEqual(desk.tell(f"kept p {world}"), " ".join(map(str, kept(program, everything, world))) or "none")
                told = desk.tell(f"turn p {world}")
                self.assertEqual(told == "none", works(program, world))
                if told != "none":
                    self.assertIs(is_turn(program, world, read_log(program, told)), True)
            self.assertEqual(desk.tell("parts p"), str(len(parts(program, everything))))
            self.assertEqual(desk.undoable(), 1)

    def test_known_answers(self):
        desk = desk_with(deep=DEEP, line=LINE, ring=ROUND, ahead=AHEAD, empty=EMPTY, two=TWO)
        for line, answer in (("works deep boxes", "yes"), ("works deep corner", "no"), ("depths deep boxes", "2 2"), ("depths ring boxes", "turn"),
                             ("kept deep boxes", "0 3"), ("kept line boxes", "none"), ("turn line corner", "none"), ("parts deep", "1"),
                             ("parts empty", "0"), ("turn ahead corner", "0"), ("longest line 0 5", "5"), ("longest deep 0 3", "9"),
                             ("longest two 0 3", "5"), ("longest line 0 5000", "5000"), ("longest ring 1 1", "1"), ("kept empty corner", "none"),
                             ("depths empty corner", "0"), ("names", "ahead deep empty line ring two")):
            self.assertEqual(desk.tell(line), answer)
        self.assertIn(desk.tell("turn ring boxes"), ("0 1", "1 0"))
        self.assertEqual(desk.tell("longest two 0 70"), str(longest(TWO, (70, 70), 0)))

    def test_programs_with_the_longest_steps_and_the_most_readings(self):
        chance = random.Random(2)
        for program in some_programs(3, 40, 8, 24):
            desk = desk_with(p=program)
            for world in WORLDS:
                told = desk.tell(f"turn p {world}")
                if told != "none":
                    self.assertIs(is_turn(program, world, read_log(program, told)), True)
        for _ in range(20):
            readings = {(0, 0, tuple(chance.randint(-LONG, LONG) for _ in range(4))) for _ in range(24)}
            program = Program(4, 1, tuple(sorted(readings)))
            told = desk_with(p=program).tell("turn p boxes")
            self.assertIs(is_turn(program, "boxes", read_log(program, told)), True)


class Wrong(Cases):
    def test_what_is_no_string_or_has_a_line_feed(self):
        desk = desk_with(a=LINE)
        for thing in [thing for thing in odd_things() if not isinstance(thing, str)]:
            self.raised(desk, NoLine, thing)
        for line in ("names\n", "\nnames", "na\nmes", "undo\n", "show a\n", "show\na", "program a sides 1\ntables 1\n", "program a sides 1|tables 1|\n",
                     "drop a\n", "\n", "works a boxes\n", b"names", ["names"]):
            self.raised(desk, NoLine, line)

    def test_blanks_and_words(self):
        desk = desk_with(a=LINE, ab=DEEP)
        right = ["names", "undo", "drop a", "show a", "works a boxes", "depths a corner", "kept a boxes", "turn a boxes", "parts a", "longest a 0 5"]
        for line in right:
            first, *rest = line.split(" ")
            for wrong in [" " + line, line + " ", line + " a", line.replace(" ", "  ", 1) + " " * (" " not in line), line.upper(), line + "\t",
                          line.replace(" ", "\t") + "\t", line + "|", first[:-1] + " ".join(rest), " ".join([first + "s", *rest]),
                          " ".join([first, *rest[:-1]]) if rest else "name", " ".join([first, first, *rest])]:
                self.raised(desk, NoLine, wrong)
        for line in ["", " ", "|", "a", "help", "program", "program a", "program a ", "program  a", "program", "Names", "name", "names none",
                     "undo 1", "undo undo", "redo", "works a", "works a boxes corner", "works boxes a", "longest a 0", "longest a 0 5 5"]:
            self.raised(desk, NoLine, line)

    def test_names_of_one_eight_and_nine_letters(self):
        desk = Desk()
        for name in ("a", "z", "abcdefgh", "zzzzzzzz", "names", "program", "none", "undo", "drop", "show"):
            self.raised(desk, NoName, f"show {name}", "name", name)
            self.raised(desk, NoName, f"drop {name}", "name", name)
            self.assertEqual(desk.tell(f"program {name} sides 1|tables 1|"), "ok")
            self.assertEqual(desk.tell(f"show {name}"), "sides 1|tables 1|")
        for name in ("abcdefghi", "A", "aB", "", "a1", "1", "a-b", "a_b", "a.b", "a|b", "a\tb", "\ta", "{", "`", "~"):
            for line in (f"show {name}", f"drop {name}", f"program {name} sides 1|tables 1|", f"program {name} x", f"works {name} boxes",
                         f"depths {name} boxes", f"kept {name} boxes", f"turn {name} boxes", f"parts {name}", f"longest {name} 0 1"):
                self.raised(desk, NoLine, line)

    def test_worlds(self):
        desk = desk_with(a=LINE)
        for word in ("works", "depths", "kept", "turn"):
            for world in ("box", "Boxes", "corners", "", "0", "boxes|", "CORNER", "boxes\t"):
                self.raised(desk, NoLine, f"{word} a {world}")
                self.raised(desk, NoLine, f"{word} b {world}")
            for world in WORLDS:
                self.raised(desk, NoName, f"{word} b {world}", "name", "b")

    def test_numbers(self):
        desk = desk_with(a=LINE)
        for number in ("00", "01", "-1", "-0", "+1", "1.0", "", "x", "1_0", "0x1", "1e3", "9" * 61, "1" + "0" * 60, "0" * 60, " 1", "1\t"):
            self.raised(desk, NoLine, f"longest a {number} 5")
            self.raised(desk, NoLine, f"longest a 0 {number}")
            self.raised(desk, NoLine, f"longest b 0 {number}")
        self.raised(desk, NoTable, f"longest a {'9' * 60} 5")
        self.raised(desk, TooMany, f"longest a 0 {'9' * 60}", "most", 5000)
        self.raised(desk, NoName, f"longest b {'9' * 60} {'9' * 60}", "name", "b")

    def test_what_the_functions_raise(self):
        desk = desk_with(ring=ROUND, line=LINE)
        self.raised(desk, NoBox, "longest line 0 0")
        self.raised(desk, NoBox, "longest line 9 0")
        self.raised(desk, NoTable, "longest line 1 1")
        self.raised(desk, NoTable, "longest line 1 5001")
        self.raised(desk, TooMany, "longest line 0 5001", "most", 5000)
        self.raised(desk, TooMany, "longest ring 0 2501", "most", 5000)
        self.raised(desk, NotWorking, "longest ring 0 2500")
        self.raised(desk, NotWorking, "longest ring 1 2")
        self.raised(desk, NoName, "longest ringo 9 0", "name", "ringo")

    def test_texts(self):
        desk = desk_with(a=LINE)
        for text, line in (("x", 1), (" ", 1), ("|", 1), ("||", 1), ("sides 1", 1), ("sides 1|", 2), ("sides 1|tables 1", 2), (" sides 1|tables 1|", 1),
                           ("sides 01|tables 1|", 1), ("sides 1|tables 1|0 0 1", 3), ("sides 1|tables 1|0 0 1||", 4), ("sides 1|tables 1|0 0  1|", 3),
                           ("sides 1|tables 1| ", 3), ("sides 1|tables 1|\t|", 3), (f"sides 1|tables 1|0 0 {'1' * 61}|", 3), ("sides 1  |tables 1|", 1)):
            self.raised(desk, BadText, f"program a {text}", "line", line)
            self.raised(desk, BadText, f"program new {text}", "line", line)
        for text, part in (("sides 0|tables 1|", "sides"), ("sides 5|tables 9|", "sides"), ("sides 1|tables 0|", "tables"), ("sides 1|tables -1|", "tables"),
                           ("sides 1|tables 1|0 1 1|", 0), ("sides 1|tables 1|0 0 1|0 0 1|", 1), ("sides 1|tables 1|0 0 2|0 0 1|", 1),
                           ("sides 1|tables 1|0 0 1 1|", 0), ("sides 1|tables 1|0 0 1000000000001|", 0),
                           ("sides 1|tables 1|" + "".join(f"0 0 {k}|" for k in range(25)), "readings")):
            self.raised(desk, BadProgram, f"program a {text}", "part", part)
            self.raised(desk, BadProgram, f"program new {text}", "part", part)
        self.raised(desk, BadText, "program a  sides 1|tables 1|", "line", 1)
        self.raised(desk, NoLine, "program A sides 0|")
        self.assertEqual((desk.tell("names"), desk.tell("show a")), ("a", text_of(LINE)))

    def test_names_that_are_not_kept(self):
        desk = desk_with(a=LINE)
        for line in ("drop b", "show b", "works b boxes", "depths b boxes", "kept b corner", "turn b boxes", "parts b", "longest b 0 0"):
            self.raised(desk, NoName, line, "name", "b")
        desk.tell("drop a")
        self.raised(desk, NoName, "drop a", "name", "a")

    def test_nothing_done(self):
        desk = Desk()
        self.raised(desk, NothingDone, "undo")
        desk.tell("program a sides 1|tables 1|")
        desk.tell("undo")
        self.raised(desk, NothingDone, "undo")


class Undoing(Cases):
    def test_lives_by_chance(self):
        chance = random.Random(4)
        programs = list(some_programs(5, 30))
        for _ in range(40):
            desk, past = Desk(), [{}]
            for _ in range(chance.randint(5, 60)):
                now, name = past[-1], chance.choice(NAMES)
                word = chance.randrange(6)
                if word < 2:
                    text = text_of(chance.choice(programs))
                    self.assertEqual(desk.tell(f"program {name} {text}"), "ok")
                    past.append({**now, name: text})
                elif word == 2 and name in now:
                    self.assertEqual(desk.tell(f"drop {name}"), "ok")
                    past.append({other: now[other] for other in now if other != name})
                elif word == 2:
                    self.raised(desk, NoName, f"drop {name}", "name", name)
                elif word == 3 and len(past) > 1:
                    self.assertEqual(desk.tell("undo"), "ok")
                    past.pop()
                elif word == 4:
                    self.raised(desk, BadText, f"program {name} x", "line", 1)
                self.assertEqual(desk.undoable(), len(past) - 1)
                self.assertEqual(desk.tell("names"), " ".join(sorted(past[-1])) or "none")
                for name, text in past[-1].items():
                    self.assertEqual(desk.tell(f"show {name}"), text)

    def test_over_program_and_drop_lines_alone(self):
        desk = desk_with(a=LINE)
        desk.tell(f"program a {text_of(DEEP)}")
        for line in ("names", "show a", "works a boxes", "depths a boxes", "kept a boxes", "turn a boxes", "parts a", "longest a 0 2"):
            desk.tell(line)
            self.assertEqual(desk.undoable(), 2)
        desk.tell("drop a")
        self.assertEqual(desk.undoable(), 3)
        desk.tell("undo")
        self.assertEqual(desk.tell("show a"), text_of(DEEP))
        desk.tell("undo")
        self.assertEqual((desk.tell("show a"), desk.tell("depths a boxes")), (text_of(LINE), "1"))
        desk.tell("undo")
        self.assertEqual((desk.tell("names"), desk.undoable()), ("none", 0))

    def test_a_program_kept_again_is_taken_back_too(self):
        desk = desk_with(a=LINE)
        desk.tell(f"program a {text_of(LINE)}")
        self.assertEqual(desk.undoable(), 2)
        desk.tell("undo")
        self.assertEqual((desk.undoable(), desk.tell("names")), (1, "a"))
        desk.tell("undo")
        self.assertEqual((desk.undoable(), desk.tell("names")), (0, "none"))

    def test_two_desks_go_apart(self):
        one, other = desk_with(a=LINE), desk_with(b=DEEP)
        one.tell(f"program b {text_of(TWO)}")
        self.assertEqual((other.tell("names"), other.tell("show b"), other.undoable()), ("b", text_of(DEEP), 1))
        other.tell("undo")
        self.assertEqual((one.tell("names"), one.undoable(), other.tell("names")), ("a b", 2, "none"))

    def test_long_lives(self):
        desk = Desk()
        for k in range(3000):
            desk.tell(f"program a sides 1|tables 1|0 0 {k}|")
        self.assertEqual((desk.undoable(), desk.tell("show a")), (3000, "sides 1|tables 1|0 0 2999|"))
        for _ in range(2999):
            desk.tell("undo")
        self.assertEqual((desk.undoable(), desk.tell("show a")), (1, "sides 1|tables 1|0 0 0|"))

    def test_a_desk_is_equal_to_nothing_else(self):
        desk = Desk()
        for thing in [*odd_things(), "names", HUGE]:
            self.assertFalse(desk == thing)
            self.assertTrue(desk != thing)


if __name__ == "__main__":
    unittest.main()
