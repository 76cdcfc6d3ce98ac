"""Sheets (13.1 to 13.3)."""

import copy
import random
import unittest

from cells import HUGE, bad_for, greatest_in, is_plain, long_lines, pairs_in, read_by, within, works_there
from test_bench import BAD_READINGS
from test_working import made, some_meaning
from things import BOTH, DEEP, EMPTY, FULL, GREAT, LINE, ROUND, TWO, lists_deep, odd_things, tuples_deep
from turnsneeded.errors import (Full, NoBox, NoMeaning, NoModulus, NoNumber, NoPoint, NoReading, NoTable, NotFixed, NotInside, NotRead,
                                NotThere, NothingDone, NotWorking, TooMany)
from turnsneeded.programs import Program, also, stretched
from turnsneeded.sheets import Sheet
from turnsneeded.working import worked
from waiting import LONG, some_program

SUM = (("sum", 0),)


class Account:
    """What a sheet should tell, by the words of 13.1 to 13.3, each thing asked one behind another."""

    def __init__(self, program, meaning, modulus, box):
        self.now = program, meaning, {}, {}
        self.modulus, self.box = modulus, box
        self.past = []
        self.last = {}
        self.made = 0

    def change(self, program=None, meaning=None, edges=None, fixed=None):
        told = self.now
        self.past.append(told)
        self.now = tuple(old if new is None else new for old, new in zip(told, (program, meaning, edges, fixed)))

    def undo(self):
        self.now = self.past.pop()

    def edges(self):
        program, _, told, _ = self.now
        there = {other for pair in pairs_in(program, self.box) for other in read_by(program, pair)}
        return {pair: told.get(pair, 0) for pair in there if not within(self.box, pair[1])}

    def asked(self, pair):
        """The value of a pair that is asked, with all that is asked for it."""
        program, meaning, told, fixed = self.now
        if not within(self.box, pair[1]):
            return told.get(pair, 0)
        if pair in fixed:
            return fixed[pair]
        values = [self.asked(other) for other in read_by(program, pair)]
        make = meaning[pair[0]], [reading for reading in program.readings if reading[0] == pair[0]], values
        if self.last.get(pair, (None, None))[0] != make:
            self.made += 1
            self.last[pair] = make, made(make[0], self.modulus, values)
        return self.last[pair][1]

    def due(self, pair):
        return copy.deepcopy(self).count(lambda account: account.asked(pair))

    def count(self, action):
        held = self.made
        action(self)
        return self.made - held

    def all_values(self):
        return {pair: self.asked(pair) for pair in pairs_in(self.now[0], self.box)}

    def planned(self):
        """The pairs that would be made if all were asked."""
        other = copy.deepcopy(self)
        other.last = dict(other.last)
        held = {pair: id(make) for pair, make in other.last.items()}
        other.all_values()
        return {pair for pair, make in other.last.items() if held.get(pair) != id(make)}

    def hanging(self, pair):
        program, _, _, fixed = self.now
        found, fresh = set(), {pair}
        while fresh:
            fresh = {one for one in pairs_in(program, self.box) if one not in found and one not in fixed and fresh & set(read_by(program, one))}
            found |= fresh
        return sorted(found)

    def roots(self, pair):
        program, _, _, fixed = self.now
        if pair in fixed:
            return []
        found, fresh, seen = set(), {pair}, set()
        while fresh:
            there = {other for one in fresh for other in read_by(program, one)}
            ends = {other for other in there if other in fixed or not within(self.box, other[1])}
            found |= ends
            fresh = there - ends - seen
            seen |= fresh
        return sorted(found)


def plan_shown(account, plan):
    """Whether a tuple is a plan, by the words of 13.3."""
    wanted = account.planned()
    if type(plan) is not tuple or len(plan) != len(wanted) or set(plan) != wanted:
        return False
    return all(other not in plan or plan.index(other) < place for place, pair in enumerate(plan) for other in read_by(account.now[0], pair))


class Cases(unittest.TestCase):
    def state(self, sheet):
        """All that a sheet tells without making anything, and what is told when it is taken back."""
        other, told = sheet.copy(), []
        while True:
            told.append((other.program(), other.meaning(), other.edges(), other.fixed(), other.plan()))
            try:
                other.undo()
            except NothingDone:
                return told, sheet.made(), other.all_values(), other.made()

    def unchanged(self, sheet, error, call, *passed):
        held = self.state(sheet)
        with self.assertRaises(error) as caught:
            call(*passed)
        self.assertIs(type(caught.exception), error)
        self.assertEqual(self.state(sheet), held)

    def raised(self, error, call, *passed):
        with self.assertRaises(error) as caught:
            call(*passed)
        self.assertIs(type(caught.exception), error)
        if error is TooMany:
            self.assertEqual(caught.exception.most, 5000)

    def same(self, sheet, account):
        """All that a sheet tells without making anything."""
        program, meaning, _, fixed = account.now
        self.assertEqual((sheet.program(), sheet.meaning(), sheet.fixed()), (program, meaning, fixed))
        self.assertEqual(sheet.edges(), account.edges())
        self.assertEqual(sheet.made(), account.made)

    def same_values(self, sheet, account):
        """The values of now, worked from nothing, too."""
        self.assertEqual(sheet.all_values(), account.all_values())
        self.assertEqual(sheet.made(), account.made)
        program, meaning, _, fixed = account.now
        if not fixed:
            edges = account.edges()
            told = worked(program, meaning, account.modulus, lambda table, point: edges[(table, point)], account.box)
            self.assertEqual(sheet.all_values(), told)
        self.assertEqual((sheet.made(), sheet.plan()), (account.made, ()))

    def same_hangings(self, sheet, account):
        program, _, _, fixed = account.now
        for pair in [*pairs_in(program, account.box), *account.edges()]:
            self.assertEqual(sheet.hanging(*pair), account.hanging(pair))
            self.assertEqual(sheet.due(*pair), account.due(pair))
            if within(account.box, pair[1]):
                self.assertEqual(sheet.roots(*pair), account.roots(pair))
        plan = sheet.plan()
        self.assertTrue(plan_shown(account, plan) and is_plain(plan))
        self.assertIs(sheet.is_plan(plan), True)
        self.assertEqual(sheet.made(), account.made)


BOXES = {1: [(1,), (3,), (6,)], 2: [(1, 1), (2, 3), (3, 3)], 3: [(2, 2, 2)], 4: [(1, 2, 2, 1), (2, 1, 2, 2)]}


def some_sheet(chance):
    """A sheet by chance with an account of it."""
    while True:
        sides = chance.randint(1, 4)
        program = some_program(chance, sides, chance.randint(1, 3), chance.randint(0, 5), chance.choice((1, 1, 2)))
        box = chance.choice(BOXES[sides])
        if works_there(program, box):
            modulus = chance.choice((2, 3, 10, 10 ** 12))
            passed = program, some_meaning(chance, program, modulus), modulus, box
            return Sheet(*passed), Account(*passed)


def some_change(chance, sheet, account):
    """Makes a change by chance, on both; what would not be right is left."""
    program, meaning, edges, fixed = account.now
    pair = chance.choice(pairs_in(program, account.box))
    value = chance.choice((0, 1, chance.randrange(account.modulus)))
    word = chance.randrange(9)
    if word < 2 and account.edges():
        edge = chance.choice(sorted(account.edges()))
        sheet.edge(*edge, value)
        account.change(edges={**edges, edge: value})
    elif word == 2:
        sheet.fix(*pair, value)
        account.change(fixed={**fixed, pair: value})
    elif word == 3 and fixed:
        pair = chance.choice(sorted(fixed))
        sheet.loose(*pair)
        account.change(fixed={other: fixed[other] for other in fixed if other != pair})
    elif word == 4:
        way = some_meaning(chance, program, account.modulus)[0]
        sheet.way(pair[0], way)
        account.change(meaning=meaning[:pair[0]] + (way,) + meaning[pair[0] + 1:])
    elif word == 5 and program.readings:
        reading = chance.choice(program.readings)
        sheet.drop(reading)
        account.change(program=Program(program.sides, program.tables, tuple(one for one in program.readings if one != reading)))
    elif word == 6:
        step = tuple(chance.randint(-1, 1) for _ in range(program.sides))
        more = also(program, (chance.randrange(program.tables), chance.randrange(program.tables), step))
        reading = [one for one in more.readings if one not in program.readings] or [more.readings[0]]
        if works_there(more, account.box):
            sheet.add(reading[0])
            account.change(program=more)
    elif word == 7 and account.past:
        sheet.undo()
        account.undo()


class Lives(Cases):
    def test_example_14(self):
        s = Sheet(Program(1, 1, ((0, 0, (1,)), (0, 0, (2,)))), (("sum", 0),), 1000, (5,))
        s.edge(0, (-1,), 1)
        self.assertEqual((s.value(0, (4,)), s.made()), (8, 5))
        s.fix(0, (2,), 4)
        self.assertEqual((s.due(0, (4,)), s.value(0, (4,)), s.made(), s.roots(0, (4,))), (2, 10, 7, [(0, (-2,)), (0, (-1,)), (0, (2,))]))

    def test_lives_by_chance(self):
        chance = random.Random(1)
        for _ in range(150):
            sheet, account = some_sheet(chance)
            for _ in range(chance.randint(3, 25)):
                some_change(chance, sheet, account)
                self.same(sheet, account)
                word = chance.randrange(4)
                if word == 0:
                    self.same_values(sheet, account)
                elif word == 1:
                    self.same_hangings(sheet, account)
                elif word == 2:
                    pair = chance.choice([*pairs_in(account.now[0], account.box), *account.edges()])
                    self.assertEqual(sheet.value(*pair), account.asked(pair))
            self.same_hangings(sheet, account)
            self.same_values(sheet, account)
            while account.past:
                sheet.undo()
                account.undo()
                self.same(sheet, account)
            self.unchanged(sheet, NothingDone, sheet.undo)
            self.same_values(sheet, account)

    def test_long_lives(self):
        chance = random.Random(2)
        for _ in range(4):
            sheet, account = some_sheet(chance)
            for k in range(400):
                some_change(chance, sheet, account)
                if k % 10 == 0:
                    self.same_values(sheet, account)
            while account.past:
                sheet.undo()
                account.undo()
            self.same(sheet, account)
            self.same_values(sheet, account)

    def test_values_behind_each_kind_of_change(self):
        sheet = Sheet(LINE, (("sum", 1),), 100, (4,))
        self.assertEqual(list(sheet.all_values().values()), [1, 2, 3, 4])
        for call, passed, values, count in ((sheet.edge, (0, (-1,), 10), [11, 12, 13, 14], 4), (sheet.fix, (0, (1,), 50), [11, 50, 51, 52], 2),
                                            (sheet.fix, (0, (1,), 60), [11, 60, 61, 62], 2), (sheet.way, (0, ("less", 0)), [90, 60, 40, 60], 3),
                                            (sheet.loose, (0, (1,)), [90, 10, 90, 10], 3), (sheet.add, ((0, 0, (2,)),), [90, 0, 10, 90], 4),
                                            (sheet.drop, ((0, 0, (1,)),), [0, 90, 0, 10], 4)):
            held = sheet.made()
            self.assertIsNone(call(*passed))
            self.assertEqual(sheet.made(), held)
            self.assertEqual(list(sheet.all_values().values()), values)
            self.assertEqual(sheet.made() - held, count)
            self.assertEqual(list(sheet.all_values().values()), values)
            self.assertEqual(sheet.made() - held, count)

    def test_what_is_asked_first(self):
        # Only what the asked pair reads, however far, is made.
        sheet = Sheet(TWO, (("sum", 1),), 1000, (3, 3))
        self.assertEqual((sheet.due(0, (1, 1)), sheet.value(0, (1, 1)), sheet.made()), (4, 5, 4))
        self.assertEqual((sheet.value(0, (2, 0)), sheet.made()), (3, 5))
        self.assertEqual((sheet.due(0, (2, 2)), sheet.value(0, (2, 2)), sheet.made()), (4, 19, 9))
        # What is fixed asks nothing on.
        sheet = Sheet(LINE, (("sum", 1),), 1000, (9,))
        sheet.fix(0, (4,), 7)
        self.assertEqual((sheet.due(0, (4,)), sheet.value(0, (4,)), sheet.made()), (0, 7, 0))
        self.assertEqual((sheet.due(0, (6,)), sheet.value(0, (6,)), sheet.made()), (2, 9, 2))
        self.assertEqual((sheet.due(0, (-1,)), sheet.value(0, (-1,)), sheet.made()), (0, 0, 2))
        self.assertEqual((len(sheet.plan()), len(sheet.all_values()), sheet.made()), (6, 9, 8))

    def test_a_last_make_stays_whatever_is_changed_or_taken_back(self):
        sheet = Sheet(LINE, (("sum", 1),), 1000, (3,))
        sheet.all_values()
        for change, back in (((sheet.edge, 0, (-1,), 5), (sheet.edge, 0, (-1,), 0)), ((sheet.way, 0, ("less", 1)), (sheet.way, 0, ("sum", 1))),
                             ((sheet.fix, 0, (1,), 5), (sheet.loose, 0, (1,))), ((sheet.add, (0, 0, (2,))), (sheet.drop, (0, 0, (2,)))),
                             ((sheet.drop, (0, 0, (1,))), (sheet.add, (0, 0, (1,))))):
            change[0](*change[1:])
            back[0](*back[1:])
            self.assertEqual(sheet.plan(), ())
            change[0](*change[1:])
            sheet.undo()
            self.assertEqual((sheet.plan(), sheet.made()), ((), 3))
        # It is the last make alone that stays: one that was there ahead of it counts anew.
        sheet.edge(0, (-1,), 5)
        sheet.all_values()
        self.assertEqual(sheet.made(), 6)
        sheet.undo()
        self.assertEqual(len(sheet.plan()), 3)
        sheet.all_values()
        self.assertEqual(sheet.made(), 9)

    def test_a_fixed_pair_keeps_its_last_make(self):
        sheet = Sheet(LINE, (("sum", 1),), 1000, (3,))
        sheet.all_values()
        sheet.fix(0, (1,), 9)
        self.assertEqual((sheet.value(0, (2,)), sheet.made()), (10, 4))
        sheet.edge(0, (-1,), 3)
        self.assertEqual((sheet.value(0, (2,)), sheet.made()), (10, 4))
        sheet.edge(0, (-1,), 0)
        sheet.loose(0, (1,))
        self.assertEqual((sheet.due(0, (1,)), sheet.value(0, (1,)), sheet.made()), (0, 2, 4))
        self.assertEqual((sheet.due(0, (2,)), sheet.value(0, (2,)), sheet.made()), (1, 3, 5))

    def test_the_same_value_in_another_way_is_no_new_make_of_what_reads_it(self):
        sheet = Sheet(LINE, (("product", 0),), 1000, (5,))
        sheet.all_values()
        sheet.edge(0, (-1,), 7)
        self.assertEqual((sheet.due(0, (4,)), sheet.plan()), (1, ((0, (0,)),)))
        sheet.all_values()
        self.assertEqual(sheet.made(), 6)
        # Other readings of a table make all its pairs anew, even with the same values.
        sheet.add((0, 0, (9,)))
        self.assertEqual(len(sheet.plan()), 5)

    def test_edges_that_come_and_go_keep_their_values(self):
        sheet = Sheet(LINE, SUM, 100, (3,))
        sheet.edge(0, (-1,), 5)
        sheet.add((0, 0, (2,)))
        self.assertEqual(sheet.edges(), {(0, (-2,)): 0, (0, (-1,)): 5})
        sheet.edge(0, (-2,), 6)
        sheet.drop((0, 0, (2,)))
        self.assertEqual(sheet.edges(), {(0, (-1,)): 5})
        self.unchanged(sheet, NotRead, sheet.edge, 0, (-2,), 1)
        self.unchanged(sheet, NotRead, sheet.value, 0, (-2,))
        sheet.drop((0, 0, (1,)))
        self.assertEqual((sheet.edges(), sheet.value(0, (2,))), ({}, 0))
        sheet.add((0, 0, (2,)))
        self.assertEqual(sheet.edges(), {(0, (-2,)): 6, (0, (-1,)): 5})
        self.assertEqual([sheet.value(0, (k,)) for k in range(-2, 3)], [6, 5, 6, 5, 6])
        for edges in ({}, {(0, (-1,)): 5}, {(0, (-2,)): 6, (0, (-1,)): 5}, {(0, (-2,)): 0, (0, (-1,)): 5}, {(0, (-1,)): 5}, {(0, (-1,)): 0}):
            sheet.undo()
            self.assertEqual(sheet.edges(), edges)

    def test_what_is_fixed_reads_its_edges_still(self):
        sheet = Sheet(LINE, SUM, 100, (1,))
        sheet.fix(0, (0,), 5)
        self.assertEqual((sheet.edges(), sheet.hanging(0, (-1,)), sheet.roots(0, (0,))), ({(0, (-1,)): 0}, [], []))
        sheet.edge(0, (-1,), 7)
        self.assertEqual(sheet.value(0, (0,)), 5)
        sheet.loose(0, (0,))
        self.assertEqual(sheet.value(0, (0,)), 7)

    def test_changes_that_changed_nothing_are_taken_back(self):
        sheet = Sheet(LINE, SUM, 100, (2,))
        sheet.edge(0, (-1,), 0)
        sheet.fix(0, (1,), 5)
        sheet.fix(0, (1,), 5)
        sheet.way(0, ("sum", 0))
        sheet.add((0, 0, (1,)))
        for _ in range(3):
            sheet.undo()
            self.assertEqual(sheet.fixed(), {(0, (1,)): 5})
        sheet.undo()
        self.assertEqual(sheet.fixed(), {})
        sheet.undo()
        self.unchanged(sheet, NothingDone, sheet.undo)

    def test_asking_is_not_taken_back(self):
        sheet = Sheet(LINE, SUM, 100, (2,))
        sheet.all_values()
        sheet.value(0, (1,))
        self.unchanged(sheet, NothingDone, sheet.undo)
        self.assertEqual(sheet.made(), 2)

    def test_programs_that_work_in_the_box_alone(self):
        sheet = Sheet(ROUND, (("sum", 1), ("sum", 2)), 100, (1,))
        self.assertEqual(sheet.all_values(), {(0, (0,)): 1, (1, (0,)): 2})
        self.assertEqual(sheet.edges(), {(0, (1,)): 0, (1, (-1,)): 0})


class Boxes(Cases):
    def test_long_lines(self):
        for program, box in long_lines():
            sheet = Sheet(program, (("sum", 1),) * program.tables, 10 ** 12, box)
            values = sheet.all_values()
            self.assertEqual((max(values.values()), sheet.made()), (5000, 5000))
            first = [pair for pair in values if values[pair] == 1][0]
            last = [pair for pair in values if values[pair] == 5000][0]
            sheet.fix(*first, 9)
            self.assertEqual((len(sheet.hanging(*first)), sheet.due(*last), sheet.roots(*last)), (4999, 4999, self.ends(sheet, program)))
            plan = sheet.plan()
            self.assertIs(sheet.is_plan(plan), True)
            self.assertIs(sheet.is_plan(plan[::-1]), False)
            self.assertEqual((sheet.value(*last), sheet.made()), (5008, 9999))
            sheet.undo()
            self.assertEqual((sheet.value(*last), sheet.due(*first), sheet.made()), (5000, 0, 14998))
            other = sheet.copy()
            other.way(0, ("sum", 2))
            self.assertEqual((other.value(*last), sheet.value(*last)), (5000 + 5000 // program.tables, 5000))

    def ends(self, sheet, program):
        """The edges and fixed pairs on which the last of a line hangs."""
        return sorted([*sheet.fixed(), *(set(sheet.edges()) - {other for pair in sheet.fixed() for other in read_by(program, pair)})])

    def test_long_lines_all_asked_from_nothing(self):
        for program, box in long_lines():
            sheet = Sheet(program, (("sum", 1),) * program.tables, 10 ** 12, box)
            dues = [sheet.due(table, tuple(size - 1 for size in box)) for table in range(program.tables)]
            dues.append(sheet.due(0, (0,) * program.sides))
            self.assertEqual(max(dues), 5000)

    def test_great_programs(self):
        chance = random.Random(3)
        program, box = greatest_in(16, 48, 2, chance), (2, 3, 3, 2)
        meaning = some_meaning(chance, program, 97)
        sheet, account = Sheet(program, meaning, 97, box), Account(program, meaning, 97, box)
        for _ in range(30):
            edge = chance.choice(sorted(account.edges()))
            sheet.edge(*edge, 5)
            account.change(edges={**account.now[2], edge: 5})
            pair = chance.choice(pairs_in(program, box))
            sheet.fix(*pair, 7)
            account.change(fixed={**account.now[3], pair: 7})
        self.same_values(sheet, account)
        self.raised(Full, sheet.add, (0, 0, (1, 0, 0, 0)))
        self.assertIsNone(sheet.drop(program.readings[5]))
        program = greatest_in(16, 48, 3, chance)
        sheet = Sheet(program, some_meaning(chance, program, 97), 97, (3, 4, 4, 6))
        self.assertIs(sheet.is_plan(sheet.plan()), True)
        self.assertEqual((len(sheet.plan()), len(sheet.all_values()), sheet.made()), (4608, 4608, 4608))
        self.assertEqual(Sheet(GREAT, SUM * 16, 2, (2, 1, 1, 1)).made(), 0)

    def test_many_changes_in_a_great_box(self):
        sheet = Sheet(TWO, (("sum", 1),), 1000, (70, 71))
        for k in range(100):
            sheet.edge(0, (-1, k % 71), k)
            if k % 10 == 0:
                edges = sheet.edges()
                told = worked(TWO, (("sum", 1),), 1000, lambda table, point: edges[(table, point)], (70, 71))
                self.assertEqual(sheet.all_values(), told)
        for _ in range(100):
            sheet.undo()
        self.raised(NothingDone, sheet.undo)
        self.assertEqual(set(sheet.edges().values()), {0})

    def test_all_pairs_of_a_great_box_fixed_and_made_again(self):
        program, box = next(long_lines())
        sheet = Sheet(program, SUM, 10 ** 12, box)
        pairs = pairs_in(program, box)
        for k, pair in enumerate(pairs):
            sheet.fix(*pair, k)
        self.assertEqual(sheet.fixed(), {pair: k for k, pair in enumerate(pairs)})
        self.assertEqual((sheet.all_values(), sheet.made()), (sheet.fixed(), 0))
        other = sheet.copy()
        for pair in pairs:
            sheet.loose(*pair)
        self.assertEqual((sheet.fixed(), set(sheet.all_values().values()), sheet.made()), ({}, {0}, 5000))
        for _ in range(7500):
            sheet.undo()
        self.assertEqual(sheet.fixed(), {pair: k for k, pair in enumerate(pairs[:2500])})
        self.assertEqual((sheet.value(*pairs[-1]), sheet.due(*pairs[2499])), (2499, 0))
        self.assertEqual((len(other.fixed()), other.made()), (5000, 0))


class Errors(Cases):
    def test_of_the_beginning(self):
        meaning = (("sum", 1), ("less", 9))
        for modulus in [0, 1, 10 ** 12 + 1, HUGE, *odd_things()]:
            self.raised(NoModulus, Sheet, ROUND, meaning, modulus, (2,))
            self.raised(NoModulus, Sheet, ROUND, None, modulus, None)
        for way in [("sum", 10), ("sum", True), ("add", 1), ["sum", 1], ("sum",), (b"sum", 1), None, *odd_things()]:
            self.raised(NoMeaning, Sheet, ROUND, (way, meaning[1]), 10, (2,))
            self.raised(NoMeaning, Sheet, ROUND, (meaning[0], way), 10, None)
        for thing in [meaning[:1], meaning * 2, list(meaning), *odd_things()]:
            self.raised(NoMeaning, Sheet, ROUND, thing, 10, (2,))
        for box in bad_for(1):
            self.raised(NoBox, Sheet, ROUND, meaning, 10, box)
        self.raised(TooMany, Sheet, ROUND, meaning, 10, (2501,))
        self.raised(TooMany, Sheet, ROUND, meaning, 10, (HUGE,))
        self.raised(NotWorking, Sheet, ROUND, meaning, 10, (2500,))
        self.raised(NotWorking, Sheet, ROUND, meaning, 10, (2,))
        self.assertEqual(len(Sheet(LINE, SUM, 2, (5000,)).all_values()), 5000)

    def sheet(self):
        sheet = Sheet(TWO, (("sum", 1),), 10, (2, 3))
        sheet.edge(0, (-1, 0), 4)
        sheet.fix(0, (1, 1), 5)
        sheet.value(0, (1, 2))
        return sheet

    def places(self, sheet):
        """The methods that take a place, with a right one of it and what stands behind it."""
        return ((sheet.edge, (0, -1), (3,)), (sheet.fix, (0, 0), (3,)), (sheet.loose, (1, 1), ()), (sheet.value, (0, 0), ()),
                (sheet.due, (0, -1), ()), (sheet.hanging, (0, -1), ()), (sheet.roots, (1, 1), ()))

    def test_no_table_and_no_point(self):
        sheet = self.sheet()
        for call, point, rest in self.places(sheet):
            for table in [1, -1, HUGE, True, *odd_things()]:
                self.raised(NoTable, call, table, point, *rest)
                self.raised(NoTable, call, table, None, *[None for _ in rest])
            for wrong in [(0,), (0, 0, 0), [0, 0], (0, True), (False, 0), 0, (0, "0"), (0, (0,)), *odd_things()]:
                if not (type(wrong) is tuple and len(wrong) == 2 and all(type(one) is int for one in wrong)):
                    self.raised(NoPoint, call, 0, wrong, *rest)
                    self.raised(NoPoint, call, 0, wrong, *[None for _ in rest])
        self.assertEqual(self.state(sheet), self.state(self.sheet()))

    def test_places_that_are_not_where_they_must_be(self):
        sheet = self.sheet()
        for point in ((-1, -1), (2, 0), (0, 3), (-2, 0), (HUGE, 0), (-HUGE, -HUGE)):
            for call in (sheet.value, sheet.due, sheet.hanging):
                self.unchanged(sheet, NotRead, call, 0, point)
            self.unchanged(sheet, NotRead, sheet.edge, 0, point, 1)
            self.unchanged(sheet, NotRead, sheet.edge, 0, point, None)
            for call, rest in ((sheet.fix, (1,)), (sheet.fix, (None,)), (sheet.loose, ()), (sheet.roots, ())):
                self.unchanged(sheet, NotInside, call, 0, point, *rest)
        for point in ((0, 0), (1, 2), (1, 1)):
            self.unchanged(sheet, NotRead, sheet.edge, 0, point, 1)
            self.unchanged(sheet, NotRead, sheet.edge, 0, point, -1)
        for point in ((-1, 0), (0, -1), (-1, 2)):
            for call, rest in ((sheet.fix, (1,)), (sheet.loose, ()), (sheet.roots, ())):
                self.unchanged(sheet, NotInside, call, 0, point, *rest)

    def test_no_number(self):
        sheet = self.sheet()
        for value in [-1, 10, HUGE, True, False, None, "1", (1,), [1], *odd_things()]:
            self.raised(NoNumber, sheet.edge, 0, (0, -1), value)
            self.raised(NoNumber, sheet.fix, 0, (0, 0), value)
            self.raised(NoNumber, sheet.fix, 0, (1, 1), value)
        self.assertEqual(self.state(sheet), self.state(self.sheet()))
        for value in (0, 9):
            sheet.edge(0, (0, -1), value)
            sheet.fix(0, (0, 0), value)
            self.assertEqual((sheet.value(0, (0, -1)), sheet.value(0, (0, 0))), (value, value))

    def test_not_fixed(self):
        sheet = self.sheet()
        self.unchanged(sheet, NotFixed, sheet.loose, 0, (0, 0))
        sheet.loose(0, (1, 1))
        self.unchanged(sheet, NotFixed, sheet.loose, 0, (1, 1))

    def test_ways(self):
        sheet = self.sheet()
        for table in [1, -1, HUGE, True, *odd_things()]:
            self.raised(NoTable, sheet.way, table, ("sum", 1))
            self.raised(NoTable, sheet.way, table, None)
        for way in [("sum", 10), ("sum", -1), ("sum", True), ("add", 1), ("sum", 1, 1), ["sum", 1], (b"sum", 1), ("SUM", 1), *odd_things()]:
            self.raised(NoMeaning, sheet.way, 0, way)
        self.assertEqual(self.state(sheet), self.state(self.sheet()))
        for way in (("sum", 0), ("product", 9), ("least", 3), ("greatest", 2), ("less", 1)):
            sheet.way(0, way)
            self.assertEqual(sheet.meaning(), (way,))

    def test_readings(self):
        sheet = Sheet(Program(2, 2, ((0, 1, (1, 0)),)), SUM * 2, 10, (2, 2))
        held = self.state(sheet)
        for reading in BAD_READINGS:
            self.raised(NoReading, sheet.add, reading)
            self.raised(NoReading, sheet.drop, reading)
        for reading in ((0, 1, (0, 1)), (1, 1, (0, 0)), (0, 0, (LONG, LONG))):
            self.raised(NotThere, sheet.drop, reading)
        for reading in ((0, 0, (0, 0)), (1, 0, (-1, 0))):
            self.raised(NotWorking, sheet.add, reading)
        self.assertEqual(self.state(sheet), held)
        # Where the box has no room for a ring, the program works in it.
        sheet.add((1, 0, (-2, 0)))
        sheet.add((1, 0, (-1, -2)))
        self.raised(NotWorking, sheet.add, (1, 0, (-1, 0)))

    def test_full_comes_ahead_of_not_working(self):
        sheet = Sheet(Program(1, 2, tuple((0, 1, (k,)) for k in range(24))), SUM * 2, 10, (2,))
        held = self.state(sheet)
        for reading in ((0, 0, (0,)), (1, 0, (0,)), (0, 1, (24,)), (1, 0, (5,))):
            self.raised(Full, sheet.add, reading)
        self.assertEqual(self.state(sheet), held)
        sheet.add((0, 1, (3,)))
        self.assertEqual(len(sheet.program().readings), 24)
        sheet.undo()
        self.assertEqual(self.state(sheet), held)
        self.assertEqual(Sheet(FULL, SUM * 8, 10, (2, 2, 2, 2)).program(), FULL)

    def test_readings_of_programs_that_were_returned(self):
        # Their steps may be longer than a reading that is told.
        long = stretched(LINE, 10 ** 12)
        longer = stretched(long, 2)
        sheet = Sheet(longer, SUM, 10, (3,))
        self.unchanged(sheet, NoReading, sheet.drop, longer.readings[0])
        self.unchanged(sheet, NoReading, sheet.add, longer.readings[0])
        sheet = Sheet(long, SUM, 10, (3,))
        sheet.drop(long.readings[0])
        self.assertEqual(sheet.program(), EMPTY)


class Hanging(Cases):
    def test_known_ones(self):
        sheet = Sheet(TWO, SUM, 10, (2, 2))
        self.assertEqual(sheet.hanging(0, (0, 1)), [(0, (1, 1))])
        self.assertEqual(sheet.hanging(0, (-1, 0)), pairs_in(TWO, (2, 2)))
        self.assertEqual(sheet.hanging(0, (1, 1)), [])
        self.assertEqual(sheet.roots(0, (0, 0)), [(0, (-1, 0)), (0, (0, -1))])
        sheet.fix(0, (0, 1), 1)
        self.assertEqual(sheet.hanging(0, (0, 0)), [(0, (1, 0)), (0, (1, 1))])
        self.assertEqual(sheet.hanging(0, (0, 1)), [(0, (1, 1))])
        self.assertEqual(sheet.roots(0, (1, 1)), [(0, (-1, 0)), (0, (0, -1)), (0, (0, 1)), (0, (1, -1))])
        self.assertEqual(sheet.roots(0, (0, 1)), [])
        sheet.fix(0, (1, 0), 1)
        self.assertEqual(sheet.roots(0, (1, 1)), [(0, (0, 1)), (0, (1, 0))])
        self.assertEqual(sheet.hanging(0, (0, 0)), [])

    def test_what_a_told_value_can_change(self):
        chance = random.Random(4)
        for _ in range(60):
            sheet, account = some_sheet(chance)
            for _ in range(8):
                some_change(chance, sheet, account)
            for pair in pairs_in(account.now[0], account.box):
                held, roots = sheet.value(*pair), sheet.roots(*pair)
                for other in [*sheet.edges(), *sheet.fixed()]:
                    if other not in roots and other != pair:
                        again = sheet.copy()
                        change = again.fix if within(account.box, other[1]) else again.edge
                        change(*other, (again.value(*other) + 1) % account.modulus)
                        self.assertEqual(again.value(*pair), held)


class Plans(Cases):
    def test_plans_in_other_right_orders(self):
        chance = random.Random(5)
        compared = 0
        for _ in range(120):
            sheet, account = some_sheet(chance)
            for _ in range(5):
                some_change(chance, sheet, account)
                if chance.randrange(3) == 0:
                    pair = chance.choice(pairs_in(account.now[0], account.box))
                    self.assertEqual(sheet.value(*pair), account.asked(pair))
            plan = list(sheet.plan())
            for _ in range(8):
                again = list(plan)
                if again:
                    again.insert(chance.randrange(len(again)), again.pop(chance.randrange(len(again))))
                right = plan_shown(account, tuple(again))
                self.assertIs(sheet.is_plan(tuple(again)), right)
                compared += right and again != plan
            self.assertEqual(sheet.made(), account.made)
        self.assertGreater(compared, 50)

    def test_parts_changed(self):
        sheet = Sheet(TWO, SUM, 10, (2, 2))
        plan = ((0, (0, 0)), (0, (0, 1)), (0, (1, 0)), (0, (1, 1)))
        self.assertIs(sheet.is_plan(plan), True)
        self.assertIs(sheet.is_plan((plan[0], plan[2], plan[1], plan[3])), True)
        self.assertIs(sheet.is_plan(list(plan)), False)
        self.assertIs(sheet.is_plan(plan[1:] + plan[:1]), False)
        for place in range(4):
            self.assertIs(sheet.is_plan(plan[:place] + plan[place + 1:]), False)
            self.assertIs(sheet.is_plan(plan[:place] + plan[place:place + 1] + plan[place:]), False)
            _, (row, col) = plan[place]
            for wrong in [plan[place - 1], (False, (row, col)), (0, (bool(row), col)), [0, (row, col)], (0, [row, col]), (1, (row, col)),
                          (0, (row, 2)), (0, (row, col, 0)), (0, (-1, 0)), None, *odd_things()]:
                self.assertIs(sheet.is_plan(plan[:place] + (wrong,) + plan[place + 1:]), False)
        for thing in [*odd_things(), tuples_deep(80), lists_deep(80), {plan[0]: 0}]:
            self.assertIs(sheet.is_plan(thing), False)
        self.assertEqual(sheet.made(), 0)
        sheet.value(0, (0, 1))
        self.assertIs(sheet.is_plan(plan), False)
        self.assertIs(sheet.is_plan(plan[2:]), True)
        sheet.all_values()
        for thing in odd_things():
            self.assertIs(sheet.is_plan(thing), False)
        self.assertIs(sheet.is_plan(()), True)
        self.assertEqual(sheet.plan(), ())

    def test_what_would_not_be_made_is_in_no_plan(self):
        sheet = Sheet(LINE, SUM, 10, (4,))
        sheet.value(0, (0,))
        self.assertIs(sheet.is_plan(((0, (1,)), (0, (2,)), (0, (3,)))), True)
        for wrong in ((0, (0,)), (0, (-1,)), (0, (4,))):
            self.assertIs(sheet.is_plan(((0, (1,)), (0, (2,)), wrong)), False)
            self.assertIs(sheet.is_plan((wrong, (0, (1,)), (0, (2,)))), False)
        sheet.value(0, (3,))
        sheet.fix(0, (2,), 5)
        self.assertEqual(sheet.plan(), ((0, (3,)),))
        for wrong in range(3):
            self.assertIs(sheet.is_plan(((0, (wrong,)),)), False)

    def test_a_plan_leaves_out_what_is_fixed(self):
        sheet = Sheet(LINE, SUM, 10, (4,))
        sheet.fix(0, (1,), 1)
        self.assertEqual(sorted(sheet.plan()), [(0, (0,)), (0, (2,)), (0, (3,))])
        self.assertIs(sheet.is_plan(((0, (2,)), (0, (3,)), (0, (0,)))), True)
        self.assertIs(sheet.is_plan(((0, (3,)), (0, (2,)), (0, (0,)))), False)


class Copies(Cases):
    def test_copies_go_on_apart_with_all_makes(self):
        chance = random.Random(6)
        for _ in range(60):
            sheet, account = some_sheet(chance)
            for _ in range(10):
                some_change(chance, sheet, account)
                if chance.randrange(2):
                    pair = chance.choice(pairs_in(account.now[0], account.box))
                    self.assertEqual(sheet.value(*pair), account.asked(pair))
            other, its = sheet.copy(), copy.deepcopy(account)
            self.assertIs(type(other), Sheet)
            for _ in range(10):
                some_change(chance, *chance.choice(((sheet, account), (other, its))))
                self.same(sheet, account)
                self.same(other, its)
            for one, told in ((sheet, account), (other, its)):
                self.same_hangings(one, told)
                self.same_values(one, told)
                while told.past:
                    one.undo()
                    told.undo()
                self.same(one, told)
                self.same_values(one, told)

    def test_dicts_and_lists_are_new(self):
        sheet = Sheet(TWO, SUM, 10, (2, 2))
        sheet.fix(0, (0, 0), 3)
        sheet.edge(0, (-1, 1), 3)
        held = self.state(sheet)
        values = sheet.all_values()
        for told in (sheet.all_values(), sheet.edges(), sheet.fixed(), sheet.hanging(0, (0, 1)), sheet.roots(0, (1, 1))):
            self.assertIn(type(told), (dict, list))
            told.clear()
        sheet.all_values()[(0, (1, 1))] = 99
        sheet.edges()[(0, (-1, 1))] = 99
        sheet.fixed()[(0, (1, 1))] = 99
        self.assertEqual(sheet.all_values(), values)
        self.assertEqual((sheet.edges()[(0, (-1, 1))], sheet.fixed()), (3, {(0, (0, 0)): 3}))
        self.assertEqual(self.state(sheet)[0][0][:4], held[0][0][:4])

    def test_what_was_handed_in_and_returned_stays(self):
        program, meaning, box = copy.deepcopy(DEEP), (("sum", 1), ("less", 2)), (2, 2)
        sheet = Sheet(program, meaning, 10, box)
        held, ways, edges, values = sheet.program(), sheet.meaning(), sheet.edges(), sheet.all_values()
        kept = [dict(edges), dict(values)]
        sheet.drop((0, 1, (0, 0)))
        sheet.way(1, ("sum", 0))
        sheet.edge(0, (0, -1), 5)
        sheet.all_values()
        self.assertEqual((program, held, ways, meaning), (DEEP, DEEP, (("sum", 1), ("less", 2)), (("sum", 1), ("less", 2))))
        self.assertEqual([edges, values], kept)

    def test_what_is_done_to_a_program_that_was_told_is_not_done_to_the_sheet(self):
        program = copy.deepcopy(DEEP)
        sheet = Sheet(program, SUM * 2, 10, (2, 2))
        held = self.state(sheet)
        for told in (program, sheet.program(), sheet.copy().program()):
            told.sides, told.tables, told.readings = 1, 1, ()
            self.assertEqual(self.state(sheet), held)
            self.assertEqual(sheet.program(), DEEP)

    def test_kinds_of_what_is_told(self):
        sheet = Sheet(DEEP, SUM * 2, 10, (2, 2))
        sheet.fix(1, (0, 1), 7)
        self.assertTrue(is_plain([list(told.items()) for told in (sheet.all_values(), sheet.edges(), sheet.fixed())]))
        self.assertTrue(is_plain([sheet.made(), sheet.due(0, (1, 1)), sheet.value(0, (1, 1)), sheet.hanging(0, (0, 0)), sheet.roots(0, (1, 1))]))
        self.assertIs(type(sheet.program()), Program)
        self.assertIs(type(sheet.plan()), tuple)

    def test_a_sheet_is_equal_to_nothing_else(self):
        sheet = Sheet(LINE, SUM, 10, (1,))
        for thing in [*odd_things(), LINE, sheet.program(), BOTH]:
            self.assertFalse(sheet == thing)
            self.assertTrue(sheet != thing)


if __name__ == "__main__":
    unittest.main()
