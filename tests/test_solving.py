"""How answers are found: exact equations, exact corners, guesses that are shown wrong."""

import random
import unittest

from test_tasks import best_task, endless_task, none_task, shown
from turnsneeded.ratios import is_ratio, ratio
from turnsneeded.solving import answer_by, best_side, none_side, solved
from turnsneeded.tableaus import Tableau, worked_out
from turnsneeded.tasks import Task, answer, guess_bits, is_answer

EDGE = 10 ** 40
# Tasks in which what matters is smaller than what a guess can see.
HARD = (
    Task(((1, EDGE, 1, -EDGE), (0, -1, -1, EDGE - 1)), (EDGE - 1, -EDGE), (EDGE - 1, -1, 0, 1 - EDGE)),
    Task(((-EDGE, -1, 1), (-EDGE, EDGE - 1, 1), (EDGE - 1, EDGE, 1)), (EDGE, EDGE, EDGE), (-EDGE, 1 - EDGE, 1 - EDGE)),
    Task(((-1, -1, EDGE, -EDGE), (0, -1, EDGE - 1, 0), (1 - EDGE, -EDGE, -1, 1)), (1 - EDGE, -1, -EDGE), (1, 1, -EDGE, -1)),
)


def some_tasks(seed, many):
    chance = random.Random(seed)
    for _ in range(many):
        rows, places = chance.randint(2, 6), chance.randint(2, 9)
        far = chance.choice((1, 4, 10 ** 20))
        yield best_task(chance, rows, places, far)[0]
        yield none_task(chance, rows, places, far)
        yield endless_task(chance, rows, places, far)


class Solving(unittest.TestCase):
    def test_ratios(self):
        self.assertEqual([ratio(6, 4), ratio(-6, 4), ratio(6, -4), ratio(-6, -4), ratio(0, 7), ratio(0, -7), ratio(5, 1)],
                         [(3, 2), (-3, 2), (-3, 2), (3, 2), (0, 1), (0, 1), (5, 1)])
        self.assertTrue(all(is_ratio(part) for part in ((3, 2), (0, 1), (-7, 10 ** 90 + 1))))
        self.assertFalse(any(is_ratio(part) for part in ((6, 4), (0, 2), (3, -2), (1, 0), (1, True), [1, 2], (1,), None)))

    def test_equations(self):
        chance = random.Random(1)
        many = 0
        for _ in range(300):
            size, far = chance.randint(0, 6), chance.choice((1, 2, 10 ** 30))
            rows = [[chance.choice((0, chance.randint(-far, far))) for _ in range(size)] for _ in range(size)]
            amounts = [chance.randint(-far, far) for _ in range(size)]
            found = solved(rows, amounts)
            if found is None:
                # Then some row is made of the others: with an amount that is not, there is no answer.
                y = [answer_by(rows, [int(k == at) for k in range(size)], [0] * size, 0)[0] for at in range(size)]
                z = [answer_by(rows, [-int(k == at) for k in range(size)], [0] * size, 0)[0] for at in range(size)]
                self.assertIn("none", y + z)
            else:
                tops, bottom = found
                self.assertNotEqual(bottom, 0)
                self.assertEqual([sum(a * b for a, b in zip(row, tops)) for row in rows], [bottom * one for one in amounts])
                many += 1
        self.assertGreater(many, 120)

    def test_exact_answers(self):
        for task in some_tasks(2, 80):
            told = answer_by(task.rows, task.amounts, task.worths, 0)
            self.assertTrue(shown(task, told))
            self.assertEqual(told[0], answer(task)[0])

    def test_guesses_are_mostly_right(self):
        tasks = list(some_tasks(3, 60))
        right = [is_answer(task, answer_by(task.rows, task.amounts, task.worths, guess_bits(task))) for task in tasks]
        self.assertGreater(sum(right), 170)

    def test_guesses_that_are_wrong(self):
        for task in HARD:
            guess = answer_by(task.rows, task.amounts, task.worths, guess_bits(task))
            self.assertFalse(is_answer(task, guess))
            self.assertTrue(shown(task, answer(task)))
            self.assertEqual(answer(task)[0], "best")

    def test_far_too_few_bits(self):
        # Whatever a guess tells, it is no answer unless it is shown to be one.
        for task in some_tasks(4, 40):
            for bits in (1, 2, 8, 40):
                guess = answer_by(task.rows, task.amounts, task.worths, bits)
                if guess is not None and all(side is not None for side in guess):
                    self.assertIs(is_answer(task, guess), shown(task, guess))

    def test_the_first_place_never_comes_round(self):
        for task in some_tasks(5, 40):
            tableau = Tableau(task.rows, task.amounts, task.worths, 0)
            tableau.patience = 0
            word, _ = worked_out(tableau)
            self.assertEqual(word, answer(task)[0])
            sides = {"none": none_side(task.rows, task.amounts, len(task.worths), tableau.stands),
                     "best": best_side(task.rows, task.amounts, task.worths, tableau.stands)}
            if word == "none":
                self.assertTrue(shown(task, ("none", sides["none"])))
            if word == "best":
                self.assertTrue(shown(task, ("best", answer(task)[1], sides["best"])))

    def test_patience_ends(self):
        for task in some_tasks(6, 30):
            rough = Tableau(task.rows, task.amounts, task.worths, guess_bits(task))
            rough.patience = 1
            worked_out(rough)
            self.assertLessEqual(rough.pivots, 1 + len(task.rows))


if __name__ == "__main__":
    unittest.main()
