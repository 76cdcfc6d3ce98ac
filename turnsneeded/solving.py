"""Equations with as many rows as places, and the answers of tasks that are told by them."""

from turnsneeded.ratios import ratio, ratios
from turnsneeded.tableaus import Tableau, worked_out


def solved(rows, amounts):
    """The pair (tops, bottom) of what fulfils the equations, None if their rows hang on one another."""
    many = len(rows)
    grid = [list(row) + [amount] for row, amount in zip(rows, amounts)]
    bottom = 1
    for k in range(many):
        at = k
        while at < many and grid[at][k] == 0:
            at += 1
        if at == many:
            return None
        grid[k], grid[at] = grid[at], grid[k]
        clear_below(grid, k, bottom)
        bottom = grid[k][k]
    return tops_of(grid, bottom), bottom


def clear_below(grid, k, bottom):
    """Clears a place in the rows below, by integers alone: the bottom ahead divides them."""
    row = grid[k]
    part = row[k]
    for at in range(k + 1, len(grid)):
        other = grid[at]
        share = other[k]
        grid[at] = [0] * (k + 1) + [(other[j] * part - row[j] * share) // bottom for j in range(k + 1, len(row))]


def tops_of(grid, bottom):
    """The tops over the bottom, from the last row, which has one place left, to the first."""
    many = len(grid)
    tops = [0] * many
    for k in reversed(range(many)):
        row = grid[k]
        rest = row[many] * bottom - sum([row[j] * tops[j] for j in range(k + 1, many)])
        tops[k] = rest // row[k]
    return tops


def answer_by(rows, amounts, worths, bits):
    """An answer of a task; of numbers rounded to bits, where there are any, what may be one, or None."""
    many = len(worths)
    tableau = Tableau(rows, amounts, worths, bits)
    word, place = worked_out(tableau)
    if word == "none":
        y = none_side(rows, amounts, many, tableau.stands)
        return None if y is None else (word, y)
    x = place_side(rows, amounts, many, tableau.stands)
    if x is None:
        return None
    if word == "endless":
        return word, x, ray_of(rows, amounts, many, tableau.stands, place)
    return word, x, best_side(rows, amounts, worths, tableau.stands)


def columns_of(rows, amounts, many, stands):
    """The list of the columns of what stands for the rows, places and helpers."""
    return [column_of(rows, amounts, many, stand) for stand in stands]


def column_of(rows, amounts, many, stand):
    """What a place, or the helper of a row, has in each row."""
    if stand < many:
        return [row[stand] for row in rows]
    column = [0] * len(rows)
    column[stand - many] = -1 if amounts[stand - many] < 0 else 1
    return column


def none_side(rows, amounts, many, stands):
    """The fractions, one for each row, by which helpers are needed, None if the columns hang on one another."""
    return row_side(columns_of(rows, amounts, many, stands), [-1 if stand >= many else 0 for stand in stands])


def best_side(rows, amounts, worths, stands):
    """The fractions, one for each row, by which the places that stand have their worths, or None."""
    many = len(worths)
    return row_side(columns_of(rows, amounts, many, stands), [worths[k] if k < many else 0 for k in stands])


def row_side(columns, sums):
    """The fractions, one for each row, by which the columns have these sums, or None."""
    found = solved(columns, sums)
    return None if found is None else ratios(found[0], found[1])


def made_of(rows, amounts, many, stands, wanted):
    """The pair (tops, bottom) of how often the columns of what stands make what is wanted, or None."""
    columns = columns_of(rows, amounts, many, stands)
    return solved([[column[k] for column in columns] for k in range(len(rows))], wanted)


def place_side(rows, amounts, many, stands):
    """The fractions, one for each place, that make the amounts by the places that stand, or None."""
    found = made_of(rows, amounts, many, stands, amounts)
    return None if found is None else tuple(spread_out(found[0], found[1], many, stands))


def spread_out(tops, bottom, many, stands):
    """The list of the fractions of all places, those that do not stand being 0."""
    x = [(0, 1)] * many
    for top, stand in zip(tops, stands):
        if stand < many:
            x[stand] = ratio(top, bottom)
    return x


def ray_of(rows, amounts, many, stands, place):
    """The fractions, one for each place, by which a place grows without changing the amounts."""
    tops, bottom = made_of(rows, amounts, many, stands, [row[place] for row in rows])
    ray = spread_out([-top for top in tops], bottom, many, stands)
    ray[place] = (1, 1)
    return tuple(ray)
