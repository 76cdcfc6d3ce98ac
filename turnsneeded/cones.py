"""What can be above 0 where all sums are 0, and the factors of rows that show the rest cannot."""

from math import gcd

from turnsneeded.ratios import levelled, ratio
from turnsneeded.solving import best_side
from turnsneeded.tableaus import Tableau, climb, dismiss_helpers


def both_sides(rows, wanted):
    """The pair (x, y) of integers that show each other to be right.

    The x are one for each place, none below 0, for which each row sums up to 0; as many of the
    first wanted places as can be are above 0. The y are one for each row: at each place the
    sum of y times the rows is 0 or more, 0 where x is above 0, and 1 or more at the wanted
    places at which x is 0.
    """
    # Rows that are long by a common factor alone would make all that follows as long.
    factors = [max(1, common_of(row)) for row in rows]
    light = [[part // factor for part in row] for row, factor in zip(rows, factors)]
    x, worths, stands = widest(light, wanted)
    y = best_side(light, [0] * len(rows), worths, stands)
    tops, _ = levelled([ratio(top, bottom * factor) for (top, bottom), factor in zip(y, factors)])
    return x, least_integers(tops)


def widest(rows, wanted):
    """The x of both sides, the worths that ask for the rest, and what stands for the rows when there is none."""
    many = len(rows[0])
    x = [0] * many
    tableau = Tableau(rows, [0] * len(rows), x, 0)
    dismiss_helpers(tableau)
    while True:
        worths = [1 if place < wanted and x[place] == 0 else 0 for place in range(many)]
        tableau.ask(worths)
        place = climb(tableau)
        if place is None:
            return x, worths, tableau.stands
        # All sums are 0, so rays may be added up, and what one of them has stays above 0.
        x = [one + two for one, two in zip(x, least_integers(tableau.ray(place)))]


def common_of(numbers):
    """The greatest number that divides all of these, 0 if all are 0."""
    common = 0
    for number in numbers:
        common = gcd(common, number)
    return common


def least_integers(numbers):
    """The integers that are to one another as these are, as small as can be."""
    common = max(1, common_of(numbers))
    return [number // common for number in numbers]
