"""Working the values of all pairs of a box, and the orders in which they can be worked."""

from turnsneeded.checks import check_box, check_size
from turnsneeded.errors import BadBorder, BadDone, BadPick
from turnsneeded.grids import Grid, is_inside, is_pair_in, pairs_of, pairs_read
from turnsneeded.meanings import check_meaning, is_value, value_of
from turnsneeded.nets import Net

PICKED = -1


def worked(program, meaning, modulus, border, box):
    """The dict from all pairs of a box to their values; what lies outside it the border tells."""
    check_meaning(program, meaning, modulus)
    check_box(program, box)
    check_size(program, box)
    net = Net(program, box)
    known = {pair: value_outside(border, pair, modulus) for pair in net.outside}
    for pair in net.order:
        known[pair] = value_of(meaning[pair[0]], modulus, [known[other] for other in net.reads[pair]])
    return {pair: known[pair] for pair in net.pairs}


def value_outside(border, pair, modulus):
    """The value that a border tells, BadBorder if it is none."""
    table, point = pair
    value = border(table, point)
    if not is_value(value, modulus):
        raise BadBorder(table, point)
    return value


def is_free(program, box, pair, met):
    """Whether all that a pair reads within a box is met."""
    return all([other in met for other in pairs_read(program, pair) if is_inside(box, other[1])])


def first_wrong(program, box, told):
    """The first place of a list or tuple with no new pair of a box behind all that it reads there, or None."""
    met = {}
    for place, pair in enumerate(told):
        if not is_pair_in(program, box, pair) or pair in met or not is_free(program, box, pair, met):
            return place
        met[pair] = True
    return None


def is_order(program, box, thing):
    """Whether a thing is a list or tuple of all pairs of a box, each once and behind all that it reads there."""
    check_box(program, box)
    check_size(program, box)
    if not isinstance(thing, (list, tuple)) or len(thing) != len(pairs_of(program, box)):
        return False
    return first_wrong(program, box, thing) is None


def ready(program, box, done):
    """The ascending list of the pairs that are not done and read none in the box that is not."""
    check_box(program, box)
    if not isinstance(done, (list, tuple)):
        raise BadDone(-1)
    place = first_wrong(program, box, done)
    if place is not None:
        raise BadDone(place)
    check_size(program, box)
    met = {pair: True for pair in done}
    return [pair for pair in pairs_of(program, box) if pair not in met and is_free(program, box, pair, met)]


def led(program, box, stranger):
    """The list of the pairs of a box in the order in which a function picks them from what is ready."""
    check_box(program, box)
    check_size(program, box)
    grid = Grid(program, box)
    numbers = {pair: number for number, pair in enumerate(grid.pairs)}
    left = [len(there) for there in grid.reads]
    waiting = [grid.pairs[number] for number, many in enumerate(left) if many == 0]
    picked = []
    while len(waiting) > 0:
        # The function may do with its list what it likes.
        pick = stranger(list(waiting))
        if not is_pair_in(program, box, pick) or left[numbers[pick]] != 0:
            raise BadPick(len(picked))
        picked.append(waiting.pop(place_for(waiting, pick)))
        left[numbers[pick]] = PICKED
        for number in grid.readers[numbers[pick]]:
            left[number] -= 1
            if left[number] == 0:
                waiting.insert(place_for(waiting, grid.pairs[number]), grid.pairs[number])
    return picked


def place_for(pairs, pair):
    """How many of ascending pairs are ahead of one."""
    low = 0
    high = len(pairs)
    while low < high:
        middle = (low + high) // 2
        if pairs[middle] < pair:
            low = middle + 1
        else:
            high = middle
    return low
