"""Going from corner to corner of a task by a tableau of integers."""

SPREAD = 11400714819323198485
SPAN = 2 ** 64


class Tableau:
    """The rows of a task, told anew by the places that stand for them.

    Each row begins with a helper of its own standing for it, numbered behind all places,
    until a place stands there. It ends with its amount and with a grain, as if there were so
    much more of it, but less than can be told: of rows that would be used up at once, which
    leads in circles, the grains choose. Behind the rows of the task stand two more: what each
    place would add to the worth, and what it would take from what the rows lack without helpers.
    With bits, numbers are rounded to so many behind the point: quick, but only a guess.
    """

    def __init__(self, rows, amounts, worths, bits):
        self.bits = bits
        self.many = len(worths)
        self.stands = [self.many + k for k in range(len(rows))]
        self.bottom = 1
        self.pivots = 0
        self.patience = 8 * (len(rows) + self.many)
        upright = [upright_row(row, amount) for row, amount in zip(rows, amounts)]
        lacks = [sum([row[k] for row in upright]) for k in range(self.many + 2)]
        self.rows = [[part << bits for part in row] for row in upright + [list(worths) + [0, 0], lacks]]
        self.strew_grains()

    def strew_grains(self):
        """Gives each row a grain anew, all unlike, so that hardly ever two are used up at once."""
        unit = self.bottom << self.bits
        for at in range(len(self.stands)):
            self.rows[at][-1] = (1 + (at + 1) * SPREAD % SPAN) * unit

    def ask(self, worths):
        """Asks for other worths, from the corner of now on."""
        goal = [worth * self.bottom for worth in worths] + [0, 0]
        for at, stand in enumerate(self.stands):
            if stand < self.many and worths[stand] != 0:
                goal = [one - worths[stand] * two for one, two in zip(goal, self.rows[at])]
        self.rows[-2] = goal
        self.pivots = 0

    def ray(self, place):
        """The list of what all places grow by if a place grows by the bottom."""
        found = [0] * self.many
        for at, stand in enumerate(self.stands):
            if stand < self.many:
                found[stand] = -self.rows[at][place]
        found[place] = self.bottom
        return found

    def pivot(self, at, place):
        """Lets a place stand for the row at a number."""
        if self.bits > 0:
            self.pivot_roughly(at, place)
        else:
            self.pivot_exactly(at, place)
        self.stands[at] = place
        self.pivots += 1

    def pivot_exactly(self, at, place):
        """The like by integers over one bottom, which divides all that it is asked to."""
        bottom = self.bottom
        row = self.rows[at]
        part = row[place]
        for k in range(len(self.rows)):
            if k != at:
                other = self.rows[k]
                share = other[place]
                self.rows[k] = [(one * part - two * share) // bottom for one, two in zip(other, row)]
        self.bottom = part
        if part < 0:
            self.bottom = -part
            self.rows = [[-one for one in other] for other in self.rows]

    def pivot_roughly(self, at, place):
        """The like by rounded numbers; what is very near to 0 is taken for it."""
        bits = self.bits
        tiny = 1 << (bits // 2)
        part = self.rows[at][place]
        row = [(one << bits) // part for one in self.rows[at]]
        self.rows[at] = row
        for k in range(len(self.rows)):
            share = self.rows[k][place]
            if k != at and share != 0:
                fresh = [one - ((two * share) >> bits) for one, two in zip(self.rows[k], row)]
                self.rows[k] = [one if one > tiny or one < -tiny else 0 for one in fresh]


def upright_row(row, amount):
    """The list of a row, its amount and no grain, with all signs turned if the amount is below 0."""
    if amount < 0:
        return [-part for part in row] + [-amount, 0]
    return list(row) + [amount, 0]


def entering(tableau, goal):
    """The place that adds to the goal, the number of one of the last two rows; None if there is none."""
    gains = tableau.rows[goal][:tableau.many]
    if tableau.pivots < tableau.patience:
        most = max(gains, default=0)
        return gains.index(most) if most > 0 else None
    if tableau.bits > 0:
        # The guess may never end; the exact numbers will tell.
        return None
    # The first place that adds is slower than the one that adds most, but never comes round for ever.
    for place, gain in enumerate(gains):
        if gain > 0:
            return place
    return None


def leaving(tableau, place):
    """The row that would be used up first if there were more of a place, None if none ever is."""
    found = None
    for at in range(len(tableau.stands)):
        if tableau.rows[at][place] > 0 and (found is None or is_sooner(tableau, place, at, found)):
            found = at
    return found


def is_sooner(tableau, place, at, other):
    """Whether one row would be used up ahead of another, by amounts, then grains, then what stands for them."""
    row = tableau.rows[at]
    there = tableau.rows[other]
    for k in (-2, -1):
        mine = row[k] * there[place]
        its = there[k] * row[place]
        if mine != its:
            return mine < its
    return tableau.stands[at] < tableau.stands[other]


def fill(tableau):
    """Goes on until the rows lack nothing without helpers, or as little as can be."""
    goal = len(tableau.rows) - 1
    while tableau.rows[goal][-2] > 0:
        place = entering(tableau, goal)
        if place is None:
            return
        at = leaving(tableau, place)
        # Less than nothing is never lacking, so a row is found unless numbers were rounded too much.
        if at is None:
            return
        tableau.pivot(at, place)


def dismiss_helpers(tableau):
    """Lets places stand for the rows of helpers that are 0, as far as the rows do not hang on one another."""
    for at in range(len(tableau.stands)):
        if tableau.stands[at] >= tableau.many:
            sizes = [abs(part) for part in tableau.rows[at][:tableau.many]]
            most = max(sizes, default=0)
            if most > 0:
                tableau.pivot(at, sizes.index(most))
    tableau.strew_grains()


def climb(tableau):
    """Goes on until there is no greater worth, or tells the place that may grow for ever."""
    goal = len(tableau.rows) - 2
    while True:
        place = entering(tableau, goal)
        if place is None:
            return None
        at = leaving(tableau, place)
        if at is None:
            return place
        tableau.pivot(at, place)


def worked_out(tableau):
    """The pair of the word of the task and of the place that may grow for ever, None where there is none."""
    fill(tableau)
    if tableau.rows[-1][-2] > 0:
        return "none", None
    dismiss_helpers(tableau)
    place = climb(tableau)
    if place is None:
        return "best", None
    return "endless", place
