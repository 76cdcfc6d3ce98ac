"""Working the values of a box, and orders (9.1 and 9.2)."""

import copy
import random
import unittest

from cells import (HUGE, bad_for, greatest_in, is_plain, long_lines, ordered, pairs_in, read_by, reads_in, within, works_there)
from test_boxes import SMALL, WIDE_ROUND, small_cases
from things import BOTH, DEEP, EMPTY, FULL, GREAT, LINE, ROUND, TWO, lists_deep, odd_things, tuples_deep
from turnsneeded.boxes import waves
from turnsneeded.errors import BadBorder, BadDone, BadPick, NoBox, NoMeaning, NoModulus, NotWorking, TooMany
from turnsneeded.programs import Program, beside
from turnsneeded.working import is_order, led, ready, worked

WORDS = ("sum", "product", "least", "greatest", "less")
SUM = (("sum", 0),)


def border_of(modulus):
    """A border that tells unlike values at unlike pairs, the same for the same."""
    def border(table, point):
        number = table + 3
        for part in point:
            number = number * 1000003 + part
        return number % modulus
    return border


def some_meaning(chance, program, modulus):
    return tuple((chance.choice(WORDS), chance.choice((0, 1, modulus - 1, chance.randrange(modulus)))) for _ in range(program.tables))


def made(way, modulus, values):
    """What a value is made of, by the words of 9.1."""
    word, number = way
    if word == "sum":
        return sum([number, *values]) % modulus
    if word == "less":
        return (number - sum(values)) % modulus
    if word == "product":
        total = number
        for value in values:
            total *= value
        return total % modulus
    return {"least": min, "greatest": max}[word]([number, *values])


def worked_by_hand(program, meaning, modulus, border, box):
    values = {}

    def value(pair):
        if not within(box, pair[1]):
            return border(*pair)
        return values[pair]

    for pair in ordered(program, box):
        values[pair] = made(meaning[pair[0]], modulus, [value(other) for other in read_by(program, pair)])
    return values


class OwnError(Exception):
    """An error of a function that is passed."""


class Cases(unittest.TestCase):
    def raised(self, error, call, *passed, told=None):
        with self.assertRaises(error) as caught:
            call(*passed)
        self.assertIs(type(caught.exception), error)
        if error is TooMany:
            self.assertEqual(caught.exception.most, 5000)
        if told is not None:
            self.assertEqual(caught.exception.index, told)
            self.assertIs(type(caught.exception.index), int)


class Values(Cases):
    def compared(self, program, meaning, modulus, box):
        asked = []

        def border(table, point):
            self.assertEqual((type(table), type(point)), (int, tuple))
            asked.append((table, point))
            return border_of(modulus)(table, point)

        told = worked(program, meaning, modulus, border, box)
        self.assertIs(type(told), dict)
        self.assertEqual(told, worked_by_hand(program, meaning, modulus, border_of(modulus), box))
        self.assertTrue(is_plain(list(told.items())))
        read = {other for pair in told for other in read_by(program, pair)}
        self.assertEqual(set(asked), {other for other in read if not within(box, other[1])})
        return told

    def test_small_boxes_by_own_reckoning(self):
        chance = random.Random(1)
        compared = 0
        for program, box in small_cases(1, 400):
            modulus = chance.choice((2, 3, 10, 997, 10 ** 12))
            meaning = some_meaning(chance, program, modulus)
            if works_there(program, box):
                self.compared(program, meaning, modulus, box)
                compared += 1
            else:
                self.raised(NotWorking, worked, program, meaning, modulus, border_of(modulus), box)
        self.assertGreater(compared, 200)

    def test_each_word_by_known_values(self):
        both = Program(1, 1, ((0, 0, (1,)), (0, 0, (2,))))
        outside = {(-1,): 3, (-2,): 5}
        for way, wanted in ((("sum", 1), [9, 3, 3]), (("product", 2), [0, 0, 0]), (("product", 7), [5, 5, 5]), (("least", 4), [3, 3, 3]),
                            (("greatest", 4), [5, 5, 5]), (("least", 0), [0, 0, 0]), (("greatest", 9), [9, 9, 9]), (("less", 1), [3, 5, 3])):
            told = worked(both, (way,), 10, lambda table, point: outside[point], (3,))
            self.assertEqual([told[(0, (k,))] for k in range(3)], wanted)

    def test_a_table_that_reads_nothing(self):
        for word in WORDS:
            for modulus, number in ((2, 0), (2, 1), (10 ** 12, 0), (10 ** 12, 10 ** 12 - 1)):
                told = worked(EMPTY, ((word, number),), modulus, None, (2,))
                self.assertEqual(told, {(0, (0,)): number, (0, (1,)): number})

    def test_the_greatest_modulus(self):
        modulus = 10 ** 12
        for word, wanted in (("sum", modulus - 2), ("product", 1), ("least", modulus - 1), ("greatest", modulus - 1), ("less", 0)):
            told = worked(LINE, ((word, modulus - 1),), modulus, lambda table, point: modulus - 1, (1,))
            self.assertEqual(told, {(0, (0,)): wanted})

    def test_several_readers_of_one_pair_ask_the_same(self):
        program = Program(1, 3, ((0, 2, (1,)), (1, 2, (1,)), (1, 2, (2,)), (2, 2, (3,))))
        self.compared(program, (("sum", 1), ("less", 0), ("product", 3)), 1000, (4,))

    def test_programs_that_work_in_small_boxes_alone(self):
        self.compared(WIDE_ROUND, (("sum", 1), ("less", 5)), 1000, (2,))
        self.compared(ROUND, (("sum", 1), ("less", 5)), 1000, (1,))

    def test_long_lines(self):
        for program, box in long_lines():
            told = worked(program, tuple(("sum", 1) for _ in range(program.tables)), 10 ** 12, lambda table, point: 0, box)
            self.assertEqual(sorted(told.values()), list(range(1, 5001)))

    def test_great_programs(self):
        chance = random.Random(2)
        for tables, box in ((16, (2, 3, 3, 2)), (8, (3, 3, 2, 2))):
            program = greatest_in(tables, 48, 2, chance)
            self.compared(program, some_meaning(chance, program, 10 ** 9), 10 ** 9, box)
        program = greatest_in(16, 48, 3, chance)
        told = worked(program, some_meaning(chance, program, 97), 97, border_of(97), (3, 4, 4, 6))
        self.assertEqual(list(sorted(told)), pairs_in(program, (3, 4, 4, 6)))
        self.compared(GREAT, some_meaning(chance, GREAT, 2), 2, (2, 1, 2, 1))

    def test_the_dict_is_new_and_what_is_passed_stays(self):
        meaning, program = (("sum", 1), ("less", 2)), copy.deepcopy(DEEP)
        first = worked(program, meaning, 9, border_of(9), (2, 2))
        kept = dict(first)
        first.clear()
        self.assertEqual(worked(program, meaning, 9, border_of(9), (2, 2)), kept)
        self.assertEqual((program, meaning), (DEEP, (("sum", 1), ("less", 2))))


class Borders(Cases):
    def test_a_bad_value_at_each_pair_that_is_asked(self):
        for program, box in ((LINE, (3,)), (TWO, (2, 3)), (DEEP, (3, 2))):
            meaning = SUM * program.tables
            edges = {other for pair in pairs_in(program, box) for other in read_by(program, pair) if not within(box, other[1])}
            for edge in edges:
                for value in [True, False, None, "1", -1, 10, 11, HUGE, 1.0, [1], (1,), *odd_things()]:
                    with self.assertRaises(BadBorder) as caught:
                        worked(program, meaning, 10, lambda table, point: value if (table, point) == edge else 1, box)
                    self.assertEqual((caught.exception.table, caught.exception.point), edge)
                    self.assertTrue(is_plain((caught.exception.table, caught.exception.point)))

    def test_some_pair_if_all_are_bad(self):
        with self.assertRaises(BadBorder) as caught:
            worked(TWO, SUM, 10, lambda table, point: 10, (2, 2))
        self.assertIn(caught.exception.point, [(-1, 0), (-1, 1), (0, -1), (1, -1)])

    def test_values_just_right(self):
        for value in (0, 1, 9):
            self.assertEqual(worked(LINE, SUM, 10, lambda table, point: value, (1,)), {(0, (0,)): value})

    def test_its_own_error_goes_on(self):
        def border(table, point):
            raise OwnError(table, point)

        with self.assertRaises(OwnError) as caught:
            worked(LINE, SUM, 10, border, (3,))
        self.assertEqual(caught.exception.args, (0, (-1,)))
        # It is not asked where nothing is read from outside.
        self.assertEqual(worked(EMPTY, SUM, 10, border, (1,)), {(0, (0,)): 0})


class WorkedErrors(Cases):
    def test_no_modulus(self):
        for modulus in [0, 1, -1, 10 ** 12 + 1, HUGE, *odd_things()]:
            self.raised(NoModulus, worked, ROUND, (("sum", 0), ("sum", 0)), modulus, None, (2,))
            self.raised(NoModulus, worked, ROUND, None, modulus, None, None)
        for modulus in (2, 10 ** 12):
            self.assertEqual(worked(EMPTY, SUM, modulus, None, (1,)), {(0, (0,)): 0})

    def test_no_meaning(self):
        right = ("sum", 3)
        ways = [("sum", 10), ("sum", -1), ("sum", True), ("sum", "3"), ("add", 3), ("", 3), (b"sum", 3), (None, 3), ["sum", 3], ("sum",),
                ("sum", 3, 3), "sum", 3, ("Sum", 3), ("sum ", 3), (("sum",), 3), *odd_things()]
        for way in ways:
            for meaning in ((way, right), (right, way), (way, way)):
                self.raised(NoMeaning, worked, ROUND, meaning, 10, None, (2,))
                self.raised(NoMeaning, worked, ROUND, meaning, 10, None, None)
        for meaning in [(), (right,), (right,) * 3, [right, right], right, *odd_things(), tuples_deep(80), lists_deep(80)]:
            self.raised(NoMeaning, worked, ROUND, meaning, 10, None, (2,))
        self.assertEqual(len(worked(ROUND, (right, right), 10, border_of(10), (1,))), 2)

    def test_no_box_then_too_many_then_not_working(self):
        meaning = (("sum", 1), ("sum", 1))
        for box in bad_for(1):
            self.raised(NoBox, worked, ROUND, meaning, 10, None, box)
        self.raised(TooMany, worked, ROUND, meaning, 10, None, (2501,))
        self.raised(TooMany, worked, ROUND, meaning, 10, None, (HUGE,))
        self.raised(NotWorking, worked, ROUND, meaning, 10, None, (2500,))
        self.raised(NotWorking, worked, ROUND, meaning, 10, lambda table, point: None, (2,))
        self.raised(BadBorder, worked, ROUND, meaning, 10, lambda table, point: None, (1,))
        self.raised(TooMany, worked, LINE, SUM, 10, None, (5001,))
        self.assertEqual(len(worked(LINE, SUM, 10, border_of(10), (5000,))), 5000)


class Orders(Cases):
    def test_small_boxes(self):
        chance = random.Random(3)
        for program, box in small_cases(3, 300):
            pairs = pairs_in(program, box)
            if not works_there(program, box):
                self.assertIs(is_order(program, box, pairs), False)
                self.assertIs(is_order(program, box, tuple(reversed(pairs))), False)
                continue
            order = led(program, box, chance.choice)
            reads = reads_in(program, box)
            for thing in (order, tuple(order), ordered(program, box)):
                self.assertIs(is_order(program, box, thing), True)
            for _ in range(5):
                again = list(order)
                pair = again.pop(chance.randrange(len(again)))
                self.assertIs(is_order(program, box, again), False)
                self.assertIs(is_order(program, box, tuple(again)), False)
                again.insert(chance.randint(0, len(again)), pair)
                right = all(again.index(other) < again.index(one) for one in again for other in reads[one])
                self.assertIs(is_order(program, box, again), right)
                again.insert(chance.randint(0, len(again)), pair)
                self.assertIs(is_order(program, box, again), False)

    def test_parts_changed(self):
        order = [(0, (0,)), (0, (1,)), (0, (2,))]
        self.assertIs(is_order(LINE, (3,), order), True)
        for place, pair in enumerate(order):
            _, (at,) = pair
            for wrong in [(False, (at,)), (0, (bool(at),)), [0, (at,)], (0, [at]), (0, at), (0, (at,), 0), (1, (at,)), (0, (3,)), (0, (-1,)),
                          (0, (at, 0)), None, (), "0", order[place - 1], *odd_things()]:
                self.assertIs(is_order(LINE, (3,), order[:place] + [wrong] + order[place + 1:]), False)
                self.assertIs(is_order(LINE, (3,), tuple(order[:place] + [wrong] + order[place + 1:])), False)

    def test_things_that_are_none(self):
        for program in (LINE, EMPTY, ROUND):
            for thing in [*odd_things(), tuples_deep(80), lists_deep(80), {(0, (0,)): 0}]:
                self.assertIs(is_order(program, (1,), thing), False)
                self.assertIs(is_order(program, (1,), [thing]), False)
        self.assertIs(is_order(EMPTY, (1,), [(0, (0,))]), True)
        self.assertIs(is_order(ROUND, (1,), [(1, (0,)), (0, (0,))]), True)

    def test_errors_in_their_order(self):
        for box in bad_for(1):
            self.raised(NoBox, is_order, LINE, box, [])
        self.raised(TooMany, is_order, LINE, (5001,), [])
        self.raised(TooMany, is_order, LINE, (HUGE,), None)

    def test_long_lines(self):
        for program, box in long_lines():
            order = [pair for wave in waves(program, box) for pair in wave]
            self.assertIs(is_order(program, box, order), True)
            self.assertIs(is_order(program, box, order[1:] + order[:1]), False)
            self.assertIs(is_order(program, box, order[::-1]), False)


class Ready(Cases):
    def test_small_boxes_step_by_step(self):
        chance = random.Random(4)
        for program, box in small_cases(4, 200):
            reads = reads_in(program, box)
            done = []
            while True:
                told = ready(program, box, chance.choice((list, tuple))(done))
                self.assertEqual(told, sorted(pair for pair in reads if pair not in done and all(other in done for other in reads[pair])))
                self.assertIs(type(told), list)
                if not told:
                    break
                done.append(chance.choice(told))
            self.assertIs(len(done) == len(reads), works_there(program, box))

    def test_bad_done(self):
        done = [(0, (0,)), (0, (1,)), (0, (2,))]
        for kind in (list, tuple):
            self.assertEqual(ready(LINE, (4,), kind(done)), [(0, (3,))])
            self.assertEqual(ready(LINE, (3,), kind(done)), [])
            for place in range(3):
                for wrong in [*odd_things(), [0, (place,)], (False, (place,)), (0, [place]), (1, (place,)), (0, (4,)), (0, (-1,)),
                              (0, (place + 1,)), (0, (place, 0)), (0, (0,)) if place else None]:
                    thing = kind(done[:place] + [wrong] + done[place + 1:] + [None])
                    self.raised(BadDone, ready, LINE, (4,), thing, told=place)
            # One that is not behind all that it reads, and one that stands there again.
            self.raised(BadDone, ready, LINE, (4,), kind([(0, (0,)), (0, (2,))]), told=1)
            self.raised(BadDone, ready, LINE, (4,), kind(done + done), told=3)
            self.raised(BadDone, ready, ROUND, (2,), kind([(0, (1,))]), told=0)
        for thing in [None, "", b"", {}, (k for k in ()), 0, True, Program(1, 1, ()), "ab", {(0, (0,)): 1}]:
            self.raised(BadDone, ready, LINE, (4,), thing, told=-1)
        for thing in odd_things():
            if not isinstance(thing, (list, tuple)):
                self.raised(BadDone, ready, LINE, (4,), thing, told=-1)
            elif len(thing) > 0:
                self.raised(BadDone, ready, LINE, (4,), thing, told=0)

    def test_bad_done_stands_behind_no_box_and_ahead_of_too_many(self):
        for box in bad_for(1):
            self.raised(NoBox, ready, LINE, box, None)
            self.raised(NoBox, ready, LINE, box, [])
        for size in (5001, HUGE):
            self.raised(BadDone, ready, LINE, (size,), None, told=-1)
            self.raised(BadDone, ready, LINE, (size,), [(0, (0,)), (0, (2,))], told=1)
            self.raised(BadDone, ready, LINE, (size,), [(0, (size,))], told=0)
            self.raised(TooMany, ready, LINE, (size,), [(0, (0,)), (0, (1,))])
            self.raised(TooMany, ready, LINE, (size,), [])

    def test_in_a_box_in_which_the_program_does_not_work(self):
        self.assertEqual(ready(ROUND, (3,), []), [(0, (0,)), (1, (2,))])
        self.assertEqual(ready(ROUND, (3,), [(1, (2,)), (0, (0,))]), [])
        self.assertEqual(ready(BOTH, (2,), ()), [])

    def test_long_lines(self):
        for program, box in long_lines():
            order = [pair for wave in waves(program, box) for pair in wave]
            for many in (0, 1, 2500, 4999):
                self.assertEqual(ready(program, box, order[:many]), [order[many]])
            self.assertEqual(ready(program, box, order), [])
        self.assertEqual(ready(EMPTY, (5000,), []), pairs_in(EMPTY, (5000,)))

    def test_lists_are_new_and_what_is_passed_stays(self):
        done = [(0, (0,))]
        ready(LINE, (3,), done).clear()
        self.assertEqual((ready(LINE, (3,), done), done), ([(0, (1,))], [(0, (0,))]))


class Led(Cases):
    def test_functions_that_pick_from_what_is_ready(self):
        chance = random.Random(5)
        for program, box in small_cases(5, 200):
            for pick in (lambda told: told[0], lambda told: told[-1], chance.choice):
                picked, seen = [], []

                def stranger(told):
                    self.assertIs(type(told), list)
                    self.assertEqual(told, ready(program, box, picked))
                    self.assertFalse(any(told is other for other in seen))
                    seen.append(told)
                    picked.append(pick(told))
                    return picked[-1]

                order = led(program, box, stranger)
                self.assertEqual(order, picked)
                self.assertTrue(is_plain(order))
                self.assertEqual(ready(program, box, order), [])
                self.assertIs(is_order(program, box, order), works_there(program, box))

    def test_functions_that_change_their_list(self):
        for program, box in ((TWO, (3, 3)), (DEEP, (2, 3)), (EMPTY, (9,)), (ROUND, (3,))):
            order = led(program, box, lambda told: told[-1])

            def stranger(told):
                pick = told.pop()
                told.extend([pick, None, (0, (99,))])
                told.reverse()
                return pick

            self.assertEqual(led(program, box, stranger), order)

    def test_bad_picks(self):
        for place in range(4):
            for wrong in [*odd_things(), (False, (0,)), [0, (0,)], (0, [0]), (0, (9,)), (0, (place + 1,)), (1, (place,)), (0, (place, 0)),
                          (0, (place - 1,)), 1.5]:
                calls = []

                def stranger(told):
                    calls.append(told)
                    return wrong if len(calls) == place + 1 else told[0]

                self.raised(BadPick, led, LINE, (5,), stranger, told=place)
                self.assertEqual(len(calls), place + 1)
        self.raised(BadPick, led, DEEP, (2, 2), lambda told: (1, (0, 0)), told=0)
        self.raised(BadPick, led, LINE, (5,), lambda told: told, told=0)

    def test_picks_that_were_picked_already(self):
        self.raised(BadPick, led, EMPTY, (3,), lambda told: (0, (1,)), told=1)

    def test_its_own_errors_go_on(self):
        def stranger(told):
            raise OwnError(told)

        with self.assertRaises(OwnError) as caught:
            led(LINE, (5,), stranger)
        self.assertEqual(caught.exception.args, ([(0, (0,))],))
        # It is not called where nothing is ready.
        self.assertEqual(led(BOTH, (2,), stranger), [])

    def test_in_a_box_in_which_the_program_does_not_work(self):
        self.assertEqual(led(ROUND, (3,), lambda told: told[-1]), [(1, (2,)), (0, (0,))])
        still = Program(1, 2, ((0, 0, (0,)), (0, 1, (0,))))
        self.assertEqual(led(still, (2,), lambda told: told[0]), [(1, (0,)), (1, (1,))])

    def test_errors_in_their_order(self):
        for box in bad_for(1):
            self.raised(NoBox, led, LINE, box, None)
        self.raised(TooMany, led, LINE, (5001,), None)
        self.raised(TooMany, led, EMPTY, (HUGE,), None)

    def test_long_lines_and_wide_ones(self):
        for program, box in long_lines():
            self.assertIs(is_order(program, box, led(program, box, lambda told: told[0])), True)
        for at in (0, 2499, -1):
            order = led(EMPTY, (5000,), lambda told: told[at % len(told)])
            self.assertEqual(sorted(order), pairs_in(EMPTY, (5000,)))

    def test_great_programs(self):
        chance = random.Random(6)
        program = greatest_in(16, 48, 2, chance)
        order = led(program, (2, 3, 7, 7), chance.choice)
        self.assertIs(is_order(program, (2, 3, 7, 7), order), True)
        self.assertEqual(len(led(FULL, SMALL[4][1], chance.choice)), 8 * 16)
        self.assertEqual(len(led(beside(LINE, EMPTY), (2500,), lambda told: told[-1])), 5000)


if __name__ == "__main__":
    unittest.main()
