"""Linear tasks and both sides of their answers (3.1, 3.2)."""

import copy
import random
import unittest
from fractions import Fraction

from things import lists_deep, odd_things, tuples_deep
from turnsneeded.errors import BadTask
from turnsneeded.programs import Program
from turnsneeded.tasks import Task, answer, best_worth, is_answer, kind

GREATEST = 10 ** 40


def pair(number):
    number = Fraction(number)
    return number.numerator, number.denominator


def pairs(numbers):
    return tuple(pair(number) for number in numbers)


def dot(one, other):
    return sum((Fraction(a) * b for a, b in zip(one, other, strict=True)), Fraction(0))


def exact(parts):
    """Fractions of pairs, which are in lowest terms and have bottoms above 0."""
    made = []
    for top, bottom in parts:
        assert type(top) is int and type(bottom) is int and bottom > 0
        assert (Fraction(top, bottom).numerator, Fraction(top, bottom).denominator) == (top, bottom)
        made.append(Fraction(top, bottom))
    return made


def wanted(task, x, amounts):
    return min(x) >= 0 and all(dot(row, x) == amount for row, amount in zip(task.rows, amounts))


def column(task, k):
    return [row[k] for row in task.rows]


def shown(task, thing):
    """Whether an answer of the right form is one, by the words of 3.2 over exact fractions."""
    word, *sides = thing
    places = range(len(task.worths))
    if word == "none":
        y = exact(sides[0])
        return all(dot(y, column(task, k)) >= 0 for k in places) and dot(y, task.amounts) < 0
    x = exact(sides[0])
    if not wanted(task, x, task.amounts):
        return False
    other = exact(sides[1])
    if word == "endless":
        return wanted(task, other, [0] * len(task.rows)) and dot(task.worths, other) > 0
    return (all(dot(other, column(task, k)) >= task.worths[k] for k in places)
            and dot(other, task.amounts) == dot(task.worths, x))


def some_row(chance, many, far):
    return tuple(chance.choice((0, chance.randint(-far, far))) for _ in range(many))


def best_task(chance, rows, many, far):
    """A task with an x and a y that show each other to be right."""
    table = [some_row(chance, many, far) for _ in range(rows)]
    x = [chance.choice((0, 0, 1, 3)) for _ in range(many)]
    y = [chance.randint(-2, 2) for _ in range(rows)]
    amounts = tuple(sum(a * b for a, b in zip(row, x)) for row in table)
    sums = [sum(b * row[k] for b, row in zip(y, table)) for k in range(many)]
    worths = tuple(one if there > 0 else one - chance.choice((0, chance.randint(0, far))) for one, there in zip(sums, x))
    return Task(tuple(table), amounts, worths), sum(a * b for a, b in zip(worths, x))


def none_task(chance, rows, many, far):
    """A task with a row that is made of the others, but not so its amount."""
    table = [some_row(chance, many, far) for _ in range(rows - 1)]
    amounts = [chance.randint(-far, far) for _ in range(rows - 1)]
    y = [chance.randint(-2, 2) for _ in range(rows - 1)]
    last = tuple(sum(b * row[k] for b, row in zip(y, table)) + chance.choice((0, 1)) for k in range(many))
    table.append(last)
    amounts.append(sum(a * b for a, b in zip(y, amounts)) - chance.randint(1, far))
    return Task(tuple(table), tuple(amounts), some_row(chance, many, far))


def endless_task(chance, rows, many, far):
    """A task with an x and a ray."""
    ray = [chance.choice((0, 1, 2)) for _ in range(many - 1)] + [1]
    table = []
    for _ in range(rows):
        row = some_row(chance, many - 1, far)
        table.append(row + (-sum(a * b for a, b in zip(row, ray)),))
    x = [chance.choice((0, 0, 1, 3)) for _ in range(many)]
    worths = some_row(chance, many - 1, far)
    worths += (1 - sum(a * b for a, b in zip(worths, ray)),)
    return Task(tuple(table), tuple(sum(a * b for a, b in zip(row, x)) for row in table), worths)


class Making(unittest.TestCase):
    def bad(self, part, *passed):
        with self.assertRaises(BadTask) as caught:
            Task(*passed)
        self.assertEqual(caught.exception.part, part)
        self.assertIs(type(caught.exception.part), str)

    def test_a_task_keeps_its_three_attributes(self):
        for passed in (((), (), (0,)), (((1, 2), (3, 4)), (5, -6), (7, 8)), (((GREATEST,),), (-GREATEST,), (GREATEST,)),
                       (((0,) * 100,) * 40, (0,) * 40, (-1,) * 100)):
            task = Task(*passed)
            self.assertEqual((task.rows, task.amounts, task.worths), passed)
            self.assertEqual(list(vars(task)), ["rows", "amounts", "worths"])

    def test_worths(self):
        for thing in [*odd_things(), (), [1], (1, True), (False,), (1, None), ("1",), "1", (GREATEST + 1,), (-GREATEST - 1, 0),
                      (1,) * 101, ((1,),), tuples_deep(80), lists_deep(80), (1, [2]), {0: 1}, None]:
            if not isinstance(thing, tuple) or not thing or not all(type(n) is int and abs(n) <= GREATEST for n in thing) \
                    or len(thing) > 100:
                self.bad("worths", (), (), thing)
                self.bad("worths", None, None, thing)
                self.bad("worths", ((True,),), [1], thing)

    def test_rows(self):
        for thing in [*odd_things(), [(1, 2)], ([1, 2],), ((1,),), ((1, 2, 3),), ((1, 2), (3,)), ((1, True),), ((1, None),),
                      ((1, "2"),), ((1, 2), None), ((1, 2), 3), (1, 2), ((1, GREATEST + 1),), ((-GREATEST - 1, 1),), ((),),
                      ((1, 2),) * 41, "", {}, None, ((1, tuples_deep(78)),), (lists_deep(79),), ((1, 2), (3, 4), (5, 6.0))[:2]]:
            if thing not in ((), ((1, 2), (3, 4))):
                self.bad("rows", thing, (), (1, 1))
                self.bad("rows", thing, None, (1, 1))
        self.bad("rows", ((1, 2),) * 41, (1,) * 41, (1, 1))

    def test_amounts(self):
        for thing in [*odd_things(), [1, 2], (1,), (1, 2, 3), (1, True), (False, 0), (1, None), (1, "2"), (1, GREATEST + 1),
                      (-GREATEST - 1, 1), (1, (2,)), "12", None, {0: 1, 1: 2}, (1, tuples_deep(79)), (lists_deep(79), 1)]:
            self.bad("amounts", ((1, 2), (3, 4)), thing, (1, 1))
            if thing != ():
                self.bad("amounts", (), thing, (1, 1))

    def test_as_many_and_as_great_as_may_be(self):
        edge = GREATEST
        task = Task(((edge,) * 100,) * 40, (-edge,) * 40, (edge,) * 99 + (-edge,))
        self.assertEqual(len(task.rows), 40)
        self.bad("worths", (), (), (1,) * 101)

    def test_nothing_of_a_wrong_task_stays_changed(self):
        things = [[1, [2]], {"a": [1]}, lists_deep(70), ([1],)]
        before = copy.deepcopy(things)
        for thing in things:
            self.bad("worths", (), (), thing)
            self.bad("rows", thing, (), (1,))
            self.bad("amounts", (), thing, (1,))
        self.assertEqual(things, before)

    def test_equality(self):
        made = (((), (), (0,)), ((), (), (1,)), ((), (), (0, 0)), (((1,),), (0,), (0,)), (((1,),), (1,), (0,)),
                (((1,),), (0,), (1,)), (((2,),), (0,), (0,)), (((1,), (1,)), (0, 0), (0,)))
        for j, one in enumerate(made):
            for k, other in enumerate(made):
                self.assertIs(Task(*one) == Task(*copy.deepcopy(other)), j == k)
                self.assertIs(Task(*one) != Task(*other), j != k)
            for thing in [*odd_things(), one, list(one), Program(1, 1, ()), vars(Task(*one))]:
                self.assertIs(Task(*one) == thing, False)
                self.assertIs(thing == Task(*one), False)
                self.assertIs(Task(*one) != thing, True)


class Answers(unittest.TestCase):
    def told(self, task, word):
        """The answer of a task, shown by sums; told again alike."""
        told = answer(task)
        self.assertIs(type(told), tuple)
        self.assertEqual(told[0], word)
        self.assertEqual(len(told), 2 if word == "none" else 3)
        for k, side in enumerate(told[1:]):
            self.assertIs(type(side), tuple)
            rows_side = word == "none" or (word == "best" and k == 1)
            self.assertEqual(len(side), len(task.rows) if rows_side else len(task.worths))
        self.assertTrue(shown(task, told))
        self.assertIs(is_answer(task, told), True)
        return told

    def whole(self, task, word, worth=None):
        told = self.told(task, word)
        self.assertEqual(kind(task), word)
        if word == "best":
            self.assertEqual(best_worth(task), pair(dot(task.worths, exact(told[1]))))
        else:
            self.assertIsNone(best_worth(task))
        if worth is not None:
            self.assertEqual(best_worth(task), pair(worth))
        return told

    def test_example_e07(self):
        self.assertEqual((kind(Task(((1, 1),), (4,), (1, 2))), best_worth(Task(((1, 1),), (4,), (1, 2))),
                          kind(Task(((1,),), (-1,), (0,))), kind(Task((), (), (1,)))), ("best", (8, 1), "none", "endless"))

    def test_small_tasks(self):
        self.whole(Task((), (), (0,)), "best", 0)
        self.whole(Task((), (), (-1, -2, 0)), "best", 0)
        self.whole(Task((), (), (-1, 1)), "endless")
        self.whole(Task(((2,),), (3,), (5,)), "best", Fraction(15, 2))
        self.whole(Task(((-2,),), (-3,), (-5,)), "best", Fraction(-15, 2))
        self.whole(Task(((0,),), (1,), (0,)), "none")
        self.whole(Task(((0,),), (0,), (0,)), "best", 0)
        self.whole(Task(((0,),), (0,), (3,)), "endless")
        self.whole(Task(((1, -1),), (0,), (1, 0)), "endless")
        self.whole(Task(((1, -1),), (0,), (1, -1)), "best", 0)
        self.whole(Task(((1, -1),), (-7,), (1, -1)), "best", -7)
        self.whole(Task(((3, 5, 1, 0), (4, 1, 0, 1)), (15, 8), (5, 3, 0, 0)), "best", Fraction(233, 17))
        self.whole(Task(((1, 2), (2, 4)), (3, 7), (0, 0)), "none")
        self.whole(Task(((1, 2), (2, 4)), (3, 6), (1, 1)), "best", 3)
        self.whole(Task(((1, 1), (1, 1), (1, 1)), (2, 2, 2), (-1, -3)), "best", -2)
        self.whole(Task(((1, 1), (1, -1)), (1, 3), (0, 0)), "none")

    def test_rows_of_noughts_and_rows_that_hang_on_one_another(self):
        nought = (0, 0, 0)
        self.whole(Task((nought,) * 40, (0,) * 40, (-1, -1, 0)), "best", 0)
        self.whole(Task((nought,) * 40, (0,) * 39 + (1,), (-1, -1, 0)), "none")
        self.whole(Task((nought,) * 40, (0,) * 40, (-1, 1, 0)), "endless")
        one, two = (1, 2, 0), (0, 1, -3)
        rows = (one, nought, two, one, tuple(a + b for a, b in zip(one, two)), tuple(-a for a in two), nought)
        self.whole(Task(rows, (4, 0, 1, 4, 5, -1, 0), (1, 1, 1)), "best")
        self.whole(Task(rows, (4, 0, 1, 4, 6, -1, 0), (1, 1, 1)), "none")
        self.whole(Task(rows, (4, 1, 1, 4, 5, -1, 0), (1, 1, 1)), "none")
        self.whole(Task(rows, (-4, 0, -1, -4, -5, 1, 0), (1, 1, 1)), "none")

    def test_best_tasks(self):
        chance = random.Random(1)
        for _ in range(400):
            task, worth = best_task(chance, chance.randint(0, 6), chance.randint(1, 9), chance.choice((1, 3, 50)))
            self.whole(task, "best", worth)

    def test_tasks_with_none(self):
        chance = random.Random(2)
        for _ in range(300):
            self.whole(none_task(chance, chance.randint(2, 6), chance.randint(1, 9), chance.choice((1, 3, 50))), "none")
        for _ in range(300):
            rows, many = chance.randint(1, 6), chance.randint(1, 9)
            task, _ = best_task(chance, rows, many, 5)
            y = [chance.randint(-2, 2) for _ in range(rows)]
            more = tuple(abs(sum(b * row[k] for b, row in zip(y, task.rows))) for k in range(many))
            self.whole(Task(task.rows + (more,), task.amounts + (-1,), task.worths), "none")

    def test_endless_tasks(self):
        chance = random.Random(3)
        for _ in range(400):
            self.whole(endless_task(chance, chance.randint(0, 6), chance.randint(2, 9), chance.choice((1, 3, 50))), "endless")

    def test_tasks_of_any_kind(self):
        chance = random.Random(4)
        words = []
        for _ in range(700):
            rows, many, far = chance.randint(0, 5), chance.randint(1, 7), chance.choice((1, 2, 9))
            task = Task(tuple(some_row(chance, many, far) for _ in range(rows)),
                        tuple(chance.choice((0, chance.randint(-far, far))) for _ in range(rows)), some_row(chance, many, far))
            words.append(kind(task))
            self.told(task, words[-1])
        self.assertGreater(min(words.count(word) for word in ("best", "none", "endless")), 80)

    def test_tasks_in_which_corners_may_come_round(self):
        # Beale's, Kuhn's, and Marshall and Suurballe's tasks, times as much as makes them integers.
        beale = Task(((4, 0, 0, 1, -32, -4, 36), (0, 2, 0, 1, -24, -1, 6), (0, 0, 1, 0, 0, 1, 0)), (0, 0, 1),
                     (0, 0, 0, 3, -80, 2, -24))
        self.whole(beale, "best", 5)
        kuhn = Task(((-2, -9, 1, 9, 3, 0, 0), (1, 3, -1, -6, 0, 3, 0), (2, 3, -1, -12, 0, 0, 1)), (0, 0, 2), (2, 3, -1, -12, 0, 0, 0))
        self.whole(kuhn, "best", 2)
        suurballe = Task(((1, -11, -5, 18, 2, 0, 0), (1, -3, -1, 2, 0, 2, 0), (1, 0, 0, 0, 0, 0, 1)), (0, 0, 1),
                         (10, -57, -9, -24, 0, 0, 0))
        self.whole(suurballe, "best", 1)
        for task in (beale, kuhn):
            self.told(Task(task.rows[:2], task.amounts[:2], task.worths), "endless")

    def test_amounts_of_nought(self):
        chance = random.Random(5)
        words = []
        for _ in range(300):
            rows, many = chance.randint(1, 12), chance.randint(1, 24)
            task = Task(tuple(some_row(chance, many, 2) for _ in range(rows)), (0,) * rows, some_row(chance, many, 3))
            words.append(kind(task))
            self.told(task, words[-1])
            self.assertIn(best_worth(task), ((0, 1), None))
        self.assertGreater(min(words.count("best"), words.count("endless")), 20)
        self.assertNotIn("none", words)

    def test_many_things_at_once_in_one_corner(self):
        # Work for each, and someone for each work: nearly all corners are told by many sets of places.
        for size, word in ((3, "best"), (6, "best")):
            rows = [tuple(1 if k // size == at else 0 for k in range(size * size)) for at in range(size)]
            rows += [tuple(1 if k % size == at else 0 for k in range(size * size)) for at in range(size)]
            worths = tuple((k * k * 7) % 11 - 3 for k in range(size * size))
            self.whole(Task(tuple(rows), (1,) * (2 * size), worths), word)

    def test_great_numbers(self):
        chance = random.Random(6)
        for far in (10 ** 12, 10 ** 37):
            for _ in range(12):
                task, worth = best_task(chance, 6, 12, far)
                self.whole(task, "best", worth)
                self.whole(endless_task(chance, 6, 12, far), "endless")
                self.whole(none_task(chance, 6, 12, far), "none")
        edge = GREATEST
        self.whole(Task(((edge, edge - 1), (edge - 1, edge - 2)), (edge, edge - 1), (edge, -edge)), "best", edge)
        self.whole(Task(((edge, edge - 1), (edge - 1, edge - 2)), (1, 1), (edge, -edge)), "none")
        self.whole(Task(((edge, 1), (edge, 2)), (1, 2), (-edge, edge)), "best", edge)
        self.whole(Task(((edge, -1),), (-1,), (-1, -edge)), "best", -edge)
        self.whole(Task(((edge, 1 - edge, 0), (0, edge, 1 - edge)), (1, 1), (1, 1, 1)), "endless")
        self.whole(Task(((edge, 1 - edge, 0), (0, edge, -edge), (-1, 0, 1)), (0, 0, 0), (1, 1, 1)), "best", 0)
        self.whole(Task(((edge, 1 - edge, 0), (0, edge, -edge), (-1, 0, 1)), (0, -1, 0), (1, 1, 1)), "none")

    def test_numbers_as_unlike_as_can_be(self):
        chance = random.Random(7)
        for _ in range(60):
            rows, many = chance.randint(1, 8), chance.randint(1, 16)

            def number():
                return chance.choice((-1, 1, 0)) * 10 ** chance.randint(0, 40) + chance.choice((-1, 0))

            def short():
                return max(-GREATEST, min(GREATEST, number()))

            task = Task(tuple(tuple(short() for _ in range(many)) for _ in range(rows)),
                        tuple(chance.choice((0, short())) for _ in range(rows)), tuple(short() for _ in range(many)))
            self.told(task, kind(task))

    def test_as_many_rows_and_worths_as_may_be(self):
        chance = random.Random(8)
        for far in (9, 10 ** 38):
            for make in (best_task, endless_task):
                made = make(chance, 40, 100, far // 900 + 1)
                task = made[0] if isinstance(made, tuple) else made
                self.told(task, "best" if make is best_task else "endless")
            rows = tuple(tuple(chance.randint(-far, far) for _ in range(100)) for _ in range(40))
            for amounts in ((0,) * 40, tuple(chance.randint(-far, far) for _ in range(40))):
                task = Task(rows, amounts, tuple(chance.randint(-far, far) for _ in range(100)))
                self.told(task, kind(task))
            upright = tuple(tuple(map(abs, row)) for row in rows)
            self.told(Task(upright, (far,) * 40, (-1,) * 100), kind(Task(upright, (far,) * 40, (-1,) * 100)))
            self.told(Task(upright, (far,) * 39 + (-1,), (1,) * 100), "none")
            self.told(Task(upright, (0,) * 40, (far,) * 100), "best")

    def test_told_again_alike_and_alike_of_equal_tasks(self):
        chance = random.Random(9)
        for make in (none_task, endless_task):
            for _ in range(40):
                task = make(chance, 4, 6, 4)
                twin = Task(*copy.deepcopy((task.rows, task.amounts, task.worths)))
                before = copy.deepcopy(vars(task))
                self.assertEqual(answer(task), answer(twin))
                self.assertEqual(answer(task), answer(task))
                self.assertEqual(best_worth(task), best_worth(twin))
                self.assertEqual(vars(task), before)


class Judging(unittest.TestCase):
    TASKS = (
        Task(((1, 1, 0), (0, 1, 2)), (4, 3), (1, 2, 2)),
        Task(((3, 5, 1, 0), (4, 1, 0, 1)), (15, 8), (5, 3, 0, 0)),
        Task(((2, 2, 1), (-1, 0, 1)), (0, 0), (0, 0, 0)),
        Task(((1, 2), (2, 4)), (3, 7), (1, 0)),
        Task(((1, 1), (1, 1)), (-1, 2), (0, 0)),
        Task(((1, -1, 0), (0, 3, -7)), (0, 2), (1, 1, 1)),
        Task((), (), (2, -1)),
        Task((), (), (-2, -1)),
    )

    def test_other_answers_than_the_told_one(self):
        both = Task(((1, 1),), (4,), (3, 3))
        for x in ((4, 0), (0, 4), (2, 2), (Fraction(1, 3), Fraction(11, 3))):
            self.assertIs(is_answer(both, ("best", pairs(x), pairs((3,)))), True)
        for y in (2, 4, Fraction(5, 2), Fraction(7, 2), -3):
            self.assertIs(is_answer(both, ("best", pairs((4, 0)), pairs((y,)))), False)
        flat = Task(((1, 1),), (0,), (3, -1))
        for y in (3, 4, Fraction(7, 2), 10 ** 70):
            self.assertIs(is_answer(flat, ("best", pairs((0, 0)), pairs((y,)))), True)
        self.assertIs(is_answer(flat, ("best", pairs((0, 0)), pairs((Fraction(29, 10),)))), False)
        none = Task(((1, -1), (0, 0)), (1, -1), (0, 0))
        for y in ((0, 1), (0, 10 ** 79), (0, Fraction(1, 10 ** 79))):
            self.assertIs(is_answer(none, ("none", pairs(y))), True)
        for y in ((0, 0), (0, -1), (1, 5), (-1, 5)):
            self.assertIs(is_answer(none, ("none", pairs(y))), False)
        endless = Task(((1, -1, 0),), (2,), (0, 0, 1))
        for x in ((2, 0, 0), (2, 0, 5), (3, 1, Fraction(1, 7))):
            for ray in ((0, 0, 1), (5, 5, 10 ** 70), (Fraction(1, 3), Fraction(1, 3), Fraction(1, 3))):
                self.assertIs(is_answer(endless, ("endless", pairs(x), pairs(ray))), True)
            for ray in ((0, 0, 0), (1, 1, 0), (1, 0, 1), (0, 0, -1), (-1, -1, 1)):
                self.assertIs(is_answer(endless, ("endless", pairs(x), pairs(ray))), False)
        for x in ((1, 0, 0), (2, 0, -1), (1, -1, 0)):
            self.assertIs(is_answer(endless, ("endless", pairs(x), pairs((0, 0, 1)))), False)

    def changed(self, told):
        """An answer with one part changed, so that it has no longer the form of one."""
        for k in range(1, len(told)):
            side = told[k]

            def put(thing):
                return told[:k] + (thing,) + told[k + 1:]

            for thing in (None, list(side), "", 0, side + ((0, 1),), side + (None,), dict(enumerate(side)), (side,), True):
                yield put(thing)
            if side:
                yield put(side[:-1])
                yield put(side[0])
            for at, (top, bottom) in enumerate(side):
                for part in ((2 * top, 2 * bottom), (-top, -bottom), (top, 0), (top, -1), (top, True), (True, bottom), top, True,
                             [top, bottom], (top,), (top, bottom, 1), None, str(top), (str(top), bottom), (top, None),
                             (top, str(bottom)), ((top, bottom),), b"11", (0, 0), (0, 2), (3, -3), (None, bottom)):
                    if part != (top, bottom) or any(type(n) is bool for n in part):
                        yield put(side[:at] + (part,) + side[at + 1:])

    def test_one_part_changed_in_form(self):
        for task in self.TASKS:
            told = answer(task)
            self.assertTrue(shown(task, told))
            for thing in self.changed(told):
                self.assertIs(is_answer(task, thing), False, thing)
            for thing in (list(told), told[:-1], told + ((),), told + told[-1:], told[1:], told[0], (told,), told[::-1], (), None,
                          dict(enumerate(told)), (told[0],), (told[0], None), (told[0], None, None)):
                self.assertIs(is_answer(task, thing), False, thing)
            for word in ("best", "none", "endless", "Best", "best ", "", "x", b"best", None, 0, True, ("best",), ["none"]):
                if type(word) is not str or word != told[0]:
                    self.assertIs(is_answer(task, (word, *told[1:])), False)

    def test_one_part_changed_in_value(self):
        right = 0
        for task in self.TASKS:
            told = answer(task)
            for k in range(1, len(told)):
                for at, (top, bottom) in enumerate(told[k]):
                    for more in (1, -1, Fraction(1, 2), Fraction(-1, 3), 10 ** 40, Fraction(1, 10 ** 40), Fraction(-1, 10 ** 79)):
                        part = pair(Fraction(top, bottom) + more)
                        thing = told[:k] + (told[k][:at] + (part,) + told[k][at + 1:],) + told[k + 1:]
                        self.assertIs(is_answer(task, thing), shown(task, thing), thing)
                        right += shown(task, thing)
        self.assertGreater(right, 5)

    def test_both_sides_of_other_tasks(self):
        for task in self.TASKS:
            for other in self.TASKS:
                if len(task.worths) == len(other.worths) and len(task.rows) == len(other.rows):
                    told = answer(other)
                    self.assertIs(is_answer(task, told), shown(task, told))
        chance = random.Random(10)
        for _ in range(300):
            task, _ = best_task(chance, 2, 4, 2)
            other, _ = best_task(chance, 2, 4, 2)
            self.assertIs(is_answer(task, answer(other)), shown(task, answer(other)))

    def test_odd_things(self):
        for task in self.TASKS:
            for thing in odd_things():
                self.assertIs(is_answer(task, thing), False)
                for word in ("best", "none", "endless"):
                    self.assertIs(is_answer(task, (word, thing, thing)), False)
                    self.assertIs(is_answer(task, (word, (thing,), (thing,))), False)
                    if task.rows:
                        self.assertIs(is_answer(task, (word, thing)), False)
                self.assertIs(is_answer(task, (thing, (), ())), False)

    def test_no_rows_at_all(self):
        task = Task((), (), (-2, 0))
        self.assertIs(is_answer(task, ("best", ((0, 1), (5, 3)), ())), True)
        self.assertIs(is_answer(task, ("best", ((1, 1), (5, 3)), ())), False)
        self.assertIs(is_answer(task, ("none", ())), False)
        self.assertIs(is_answer(task, ("endless", ((0, 1), (0, 1)), ((0, 1), (1, 1)))), False)

    def test_very_many_unlike_bottoms(self):
        many = 100
        bottoms = [10 ** 79 + 2 * k + 1 for k in range(many)]
        x = tuple(pair(Fraction(1, bottom)) for bottom in bottoms)
        task = Task(((0,) * many,) * 40, (0,) * 40, (0,) * many)
        noughts = ((0, 1),) * 40
        self.assertIs(is_answer(task, ("best", x, noughts)), True)
        self.assertIs(is_answer(Task(((1,) * many,), (1,), (0,) * many), ("best", x, ((0, 1),))), False)

    def test_what_is_judged_stays_as_it_was(self):
        task = self.TASKS[0]
        told = answer(task)
        thing = [list(side) for side in told]
        before = copy.deepcopy(thing)
        self.assertIs(is_answer(task, thing), False)
        self.assertIs(is_answer(task, copy.deepcopy(told)), True)
        self.assertEqual(thing, before)


if __name__ == "__main__":
    unittest.main()
