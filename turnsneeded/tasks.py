"""Linear tasks, told exactly, with both sides of their answers."""

from turnsneeded.errors import BadTask
from turnsneeded.judging import is_int_in
from turnsneeded.ratios import are_ratios, levelled, ratio, weighed
from turnsneeded.solving import answer_by

MOST_WORTHS = 100
MOST_ROWS = 40
GREATEST = 10 ** 40


class Task:
    """Wanted are fractions, none below 0, that make the rows' amounts and are worth as much as can be."""

    def __init__(self, rows, amounts, worths):
        if not is_list_of_ints(worths) or not 1 <= len(worths) <= MOST_WORTHS:
            raise BadTask("worths")
        if not isinstance(rows, tuple) or len(rows) > MOST_ROWS:
            raise BadTask("rows")
        if not all([is_list_of_ints(row) and len(row) == len(worths) for row in rows]):
            raise BadTask("rows")
        if not is_list_of_ints(amounts) or len(amounts) != len(rows):
            raise BadTask("amounts")
        self.rows = rows
        self.amounts = amounts
        self.worths = worths

    def __eq__(self, other):
        return (isinstance(other, Task) and self.rows == other.rows
                and self.amounts == other.amounts and self.worths == other.worths)


def is_list_of_ints(thing):
    """Whether a thing is a tuple of integers that a task may have."""
    return isinstance(thing, tuple) and all([is_int_in(part, -GREATEST, GREATEST) for part in thing])


def guess_bits(task):
    """How many bits behind the point a guess takes, for numbers as great as those of a task."""
    sizes = [abs(part).bit_length() for row in (task.worths, task.amounts) + task.rows for part in row]
    return 4 * max(sizes) + 200


def answer(task):
    """An answer of a task."""
    # Rounded numbers find the corner much sooner, and mostly rightly; what they tell is then shown exactly.
    guess = answer_by(task.rows, task.amounts, task.worths, guess_bits(task))
    if is_answer(task, guess):
        return guess
    return answer_by(task.rows, task.amounts, task.worths, 0)


def is_answer(task, thing):
    """Whether a thing is an answer of a task."""
    if not isinstance(thing, tuple) or not 2 <= len(thing) <= 3 or not isinstance(thing[0], str):
        return False
    if len(thing) == 2:
        return thing[0] == "none" and is_none(task, thing[1])
    if thing[0] == "best":
        return is_best(task, thing[1], thing[2])
    return thing[0] == "endless" and is_endless(task, thing[1], thing[2])


def makes(task, tops, amounts):
    """Whether tops, none below 0, make amounts by the rows of a task."""
    return all([top >= 0 for top in tops]) and [weighed(row, tops) for row in task.rows] == amounts


def is_wanted(task, thing):
    """Whether a thing is a tuple of fractions as a task wants them."""
    if not are_ratios(thing, len(task.worths)):
        return False
    tops, bottom = levelled(thing)
    return makes(task, tops, [amount * bottom for amount in task.amounts])


def column_sums(task, tops):
    """The sums, for each place, of tops, one for each row, times the row's integer there."""
    return [sum([top * row[k] for top, row in zip(tops, task.rows)]) for k in range(len(task.worths))]


def is_best(task, x, y):
    """Whether x is as wanted and y shows that nothing is worth more."""
    if not is_wanted(task, x) or not are_ratios(y, len(task.rows)):
        return False
    tops, bottom = levelled(y)
    if not all([one >= worth * bottom for one, worth in zip(column_sums(task, tops), task.worths)]):
        return False
    places, under = levelled(x)
    return weighed(tops, task.amounts) * under == weighed(places, task.worths) * bottom


def is_none(task, y):
    """Whether y shows that there is nothing as wanted."""
    if not are_ratios(y, len(task.rows)):
        return False
    tops, _ = levelled(y)
    return all([one >= 0 for one in column_sums(task, tops)]) and weighed(tops, task.amounts) < 0


def is_endless(task, x, ray):
    """Whether x is as wanted and grows along the ray, with its worth, for ever."""
    if not is_wanted(task, x) or not are_ratios(ray, len(task.worths)):
        return False
    tops, _ = levelled(ray)
    return makes(task, tops, [0] * len(task.rows)) and weighed(tops, task.worths) > 0


def kind(task):
    """The word of the answers of a task."""
    return answer(task)[0]


def best_worth(task):
    """The greatest worth of what a task wants, a fraction, None if there is no greatest."""
    told = answer(task)
    if told[0] != "best":
        return None
    tops, bottom = levelled(told[1])
    return ratio(weighed(tops, task.worths), bottom)
