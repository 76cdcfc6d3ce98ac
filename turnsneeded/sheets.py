"""Sheets, which keep the values of all pairs of a box live while things are changed."""

from turnsneeded.changing import with_reading, without_reading
from turnsneeded.checks import check_box, check_place, check_size, check_table
from turnsneeded.errors import NoNumber, NotFixed, NothingDone, NotInside, NotRead
from turnsneeded.grids import is_pair_in
from turnsneeded.meanings import check_meaning, check_way, is_value, value_of
from turnsneeded.nets import Net
from turnsneeded.programs import copy_of


class Sheet:
    """The pairs of a box, each made of what it reads or fixed at a value.

    Told are the values of the fixed pairs, and those of edges, also of such as are none now.
    Of each change it is kept what was there ahead of it: the program, its meaning, and the value
    told of the pair that is changed. The last makes are never taken back.
    """

    def __init__(self, program, meaning, modulus, box):
        check_meaning(program, meaning, modulus)
        check_box(program, box)
        check_size(program, box)
        self.net = Net(program, box)
        self.held = copy_of(program)
        self.ways = meaning
        self.told = {}
        self.past = []
        self.modulus = modulus
        self.box = box
        self.makes = {}
        self.counted = 0

    def edge(self, table, point, value):
        """An edge has another value."""
        pair = self._read(table, point)
        if pair in self.net.reads:
            raise NotRead()
        self._check_value(value)
        self._tell(pair, value)

    def fix(self, table, point, value):
        """A pair of the box is fixed at a value."""
        pair = self._inside(table, point)
        self._check_value(value)
        self._tell(pair, value)

    def loose(self, table, point):
        """A fixed pair is made again."""
        pair = self._inside(table, point)
        if pair not in self.told:
            raise NotFixed()
        self._tell(pair, None)

    def way(self, table, thing):
        """A table has another pair of word and number."""
        check_table(self.held, table)
        check_way(thing, self.modulus)
        self._keep(None)
        self.ways = self.ways[:table] + (thing,) + self.ways[table + 1:]

    def add(self, reading):
        """One reading more, also one that is there."""
        self._lead(with_reading(self.held, reading))

    def drop(self, reading):
        """One reading goes."""
        self._lead(without_reading(self.held, reading))

    def undo(self):
        """Takes back the last change that is not taken back."""
        if len(self.past) == 0:
            raise NothingDone()
        held, self.ways, pair, value = self.past.pop()
        if pair is not None:
            self._put(pair, value)
        if held != self.held:
            self.net = Net(held, self.box)
        self.held = held

    def value(self, table, point):
        """The value of a pair of the box, which is asked, or of an edge."""
        pair = self._read(table, point)
        known = self._asked([pair])
        return self._now(pair, known)

    def all_values(self):
        """The dict from all pairs of the box, which are asked, to their values."""
        known = self._asked(self.net.pairs)
        return {pair: self._now(pair, known) for pair in self.net.pairs}

    def made(self):
        """How many makes counted."""
        return self.counted

    def due(self, table, point):
        """How many makes would count if a value were asked."""
        return len(self._fresh([self._read(table, point)])[1])

    def edges(self):
        """The dict from all edges to their values."""
        return {pair: self._now(pair, {}) for pair in self.net.outside}

    def fixed(self):
        """The dict from all fixed pairs to their values."""
        return {pair: self.told[pair] for pair in sorted(self.told) if pair in self.net.reads}

    def program(self):
        """The program of now."""
        return copy_of(self.held)

    def meaning(self):
        """The meaning of now."""
        return self.ways

    def hanging(self, table, point):
        """The ascending list of the pairs, not fixed, whose values hang on a pair or an edge."""
        waiting = [self._read(table, point)]
        found = {}
        while len(waiting) > 0:
            pair = waiting.pop()
            for other in self.net.readers[pair]:
                if other not in found and other not in self.told:
                    found[other] = True
                    waiting.append(other)
        return sorted(found)

    def roots(self, table, point):
        """The ascending list of the edges and fixed pairs on which the value of a pair hangs."""
        below = self._below([self._inside(table, point)])
        found = {other: True for pair in below for other in self.net.reads[pair] if other not in below}
        return sorted(found)

    def plan(self):
        """A tuple of the pairs that would be made if all were asked, each behind those that it reads."""
        return tuple(self._fresh(self.net.pairs)[1])

    def is_plan(self, thing):
        """Whether a thing is a plan."""
        fresh = self._fresh(self.net.pairs)[1]
        if not isinstance(thing, tuple) or len(thing) != len(fresh):
            return False
        met = {}
        for pair in thing:
            if not is_pair_in(self.held, self.box, pair) or pair not in fresh or pair in met:
                return False
            if not all([other in met for other in self.net.reads[pair] if other in fresh]):
                return False
            met[pair] = True
        return True

    def copy(self):
        """Another sheet, which goes on apart."""
        other = Sheet(self.held, self.ways, self.modulus, self.box)
        other.told = {pair: self.told[pair] for pair in self.told}
        other.past = list(self.past)
        other.makes = {pair: self.makes[pair] for pair in self.makes}
        other.counted = self.counted
        return other

    def _keep(self, pair):
        # No pair is changed by what changes the program or its meaning.
        self.past.append((self.held, self.ways, pair, self.told.get(pair, None)))

    def _tell(self, pair, value):
        self._keep(pair)
        self._put(pair, value)

    def _put(self, pair, value):
        # A value of None stands for a pair of which none is told.
        if value is None:
            del self.told[pair]
        else:
            self.told[pair] = value

    def _lead(self, program):
        net = Net(program, self.box)
        self._keep(None)
        self.net = net
        self.held = program

    def _check_value(self, value):
        if not is_value(value, self.modulus):
            raise NoNumber()

    def _place(self, table, point):
        check_place(self.held, table, point)
        return table, point

    def _inside(self, table, point):
        pair = self._place(table, point)
        if pair not in self.net.reads:
            raise NotInside()
        return pair

    def _read(self, table, point):
        pair = self._place(table, point)
        # There are readers known of all pairs of the box, too, even if none reads them.
        if pair not in self.net.readers:
            raise NotRead()
        return pair

    def _below(self, pairs):
        """The dict of the pairs that are asked if these are, but for those that ask nothing on."""
        waiting = list(pairs)
        found = {}
        while len(waiting) > 0:
            pair = waiting.pop()
            if pair in self.net.reads and pair not in self.told and pair not in found:
                found[pair] = True
                waiting.extend(self.net.reads[pair])
        return found

    def _now(self, pair, known):
        """The value of a pair or an edge, where those of the pairs that are made are known."""
        if pair in self.told:
            return self.told[pair]
        return known[pair] if pair in self.net.reads else 0

    def _fresh(self, pairs):
        """The dict of the values of all that is made if these are asked, and that of the makes that count then."""
        below = self._below(pairs)
        known = {}
        fresh = {}
        for pair in [other for other in self.net.order if other in below]:
            read = [self._now(other, known) for other in self.net.reads[pair]]
            make = self.ways[pair[0]], self.net.readings[pair[0]], read
            last, value = self.makes.get(pair, (None, None))
            if last != make:
                value = value_of(self.ways[pair[0]], self.modulus, read)
                fresh[pair] = make, value
            known[pair] = value
        return known, fresh

    def _asked(self, pairs):
        """The like of the values, behind which what was made counts."""
        known, fresh = self._fresh(pairs)
        for pair in fresh:
            self.makes[pair] = fresh[pair]
        self.counted += len(fresh)
        return known
