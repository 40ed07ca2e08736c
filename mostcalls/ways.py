"""Ways of blocks: for each tick the greatest number of all ways to end, to fail, and to be stopped there.

Each kind of part is a class whose objects tell their ways for so many ticks that are left to the deadline, or None,
and so many ticks until the handler run around them is unwanted, or None.
"""

from mostcalls.manners import NO_NUMBER, NOTHING_YET, Found


class Ways:
    """Three dicts from ticks to numbers."""

    def __init__(self, ended, failed, stopped):
        self.ended = ended
        self.failed = failed
        self.stopped = stopped


class Source:
    """What tells ways; those below reckon them, once for the same ticks. longest is the longest it lasts, or None."""

    def __init__(self, manner, longest):
        self.manner = manner
        self.longest = longest
        self.known = {}

    def ways(self, left, wanted):
        """The ways with so many ticks left, and so many ticks until unwanted."""
        if left is not None and self.longest is not None and left >= self.longest:
            # Nothing that it begins reaches this deadline, so it is as if there were none.
            left = None
        key = (left, wanted)
        if key not in self.known:
            self.known[key] = self.reckoned(left, wanted)
        return self.known[key]

    def reckoned(self, left, wanted):
        """The ways, reckoned."""
        raise NotImplementedError("each kind of part reckons its own ways")


class Work(Source):
    """A run from lo to hi; each tick of it, or each that is worked for nobody, counts as much as its worth."""

    def __init__(self, manner, lo, hi, worth):
        super().__init__(manner, hi)
        self.lo = lo
        self.hi = hi
        self.worth = worth

    def reckoned(self, left, wanted):
        most = self.hi if left is None else min(left, self.hi)
        ended = {}
        for tick in range(self.lo, most + 1):
            is_longer = tick > self.lo
            ended[tick] = self._number(tick, wanted, is_longer, tick)
        stopped = {}
        for tick in range(min(most, self.hi - 1) + 1):
            # It lasts longer than the tick at which it is stopped.
            is_longer = tick >= self.lo
            stopped[tick] = self._number(tick, wanted, is_longer, tick + 1)
        return Ways(told_ticks(ended), {}, told_ticks(stopped))

    def _number(self, tick, wanted, is_longer, choice):
        """The number of a run that lasts up to a tick."""
        faults = self.manner.fault if is_longer else 0
        return self.manner.single(self._value(tick, wanted), faults, choice if is_longer else None)

    def _value(self, tick, wanted):
        """What the ticks up to this one count."""
        if self.manner.is_greatest:
            return tick
        if not self.manner.minds_wanted:
            return tick * self.worth
        return 0 if wanted is None else max(0, tick - wanted) * self.worth


class Risk(Source):
    """A part that fails, or goes on."""

    def __init__(self, manner):
        super().__init__(manner, 0)

    def reckoned(self, left, wanted):
        return Ways({0: NOTHING_YET}, told_ticks({0: self.manner.single(0, self.manner.fault, 1)}), {})


class Chain(Source):
    """Parts one behind the other; they stand under these indexes, or under their own."""

    def __init__(self, manner, parts, indexes=None):
        super().__init__(manner, longest_of([part.longest for part in parts], False))
        self.parts = parts
        self.indexes = list(range(len(parts))) if indexes is None else indexes

    def reckoned(self, left, wanted):
        ended = {0: NOTHING_YET}
        failed = Found(self.manner)
        stopped = Found(self.manner)
        for index, part in zip(self.indexes, self.parts):
            found = Found(self.manner)
            for tick, number in ended.items():
                if left is None or tick <= left:
                    rest = part.ways(later(left, tick), later(wanted, tick))
                    found.put_behind(number, tick, rest.ended, index)
                    failed.put_behind(number, tick, rest.failed, index)
                    stopped.put_behind(number, tick, rest.stopped, index)
            ended = found.row()
        return Ways(ended, failed.row(), stopped.row())


class Either(Source):
    """One or the other."""

    def __init__(self, manner, one, other):
        super().__init__(manner, longest_of([one.longest, other.longest], True))
        self.one = one
        self.other = other

    def reckoned(self, left, wanted):
        return either(self.manner, self.one.ways(left, wanted), self.other.ways(left, wanted))


class Maybe(Source):
    """A block, or nothing."""

    def __init__(self, manner, block):
        super().__init__(manner, block.longest)
        self.block = block

    def reckoned(self, left, wanted):
        ways = self.block.ways(left, wanted)
        rows = [self._chosen(row) for row in (ways.ended, ways.failed, ways.stopped)]
        return either(self.manner, Ways({0: NOTHING_YET}, {}, {}), Ways(rows[0], rows[1], rows[2]))

    def _chosen(self, row):
        """The numbers of a row, with the choice of the block."""
        return {tick: self.manner.marked(number, 1) for tick, number in row.items()}


class Both(Source):
    """Two blocks at once."""

    def __init__(self, manner, one, other):
        super().__init__(manner, longest_of([one.longest, other.longest], True))
        self.one = one
        self.other = other

    def reckoned(self, left, wanted):
        one = self.one.ways(left, wanted)
        other = self.other.ways(left, wanted)
        manner = self.manner
        ended, failed, stopped = Found(manner), Found(manner), Found(manner)
        ended_by = [NO_NUMBER, NO_NUMBER]
        for tick in ticks_of([one, other]):
            ends = [ways.ended.get(tick, NO_NUMBER) for ways in (one, other)]
            fails = [ways.failed.get(tick, NO_NUMBER) for ways in (one, other)]
            halts = [ways.stopped.get(tick, NO_NUMBER) for ways in (one, other)]
            ended_by = [manner.greatest([ended_by[side], ends[side]]) for side in (0, 1)]
            rests = [manner.greatest([ended_by[side], halts[side]]) for side in (0, 1)]
            self._put_pairs(ended, tick, ends, ended_by)
            self._put_pairs(failed, tick, fails, rests)
            self._put(failed, tick, fails[0], fails[1])
            self._put_pairs(stopped, tick, halts, rests)
        return Ways(ended.row(), failed.row(), stopped.row())

    def _put_pairs(self, found, tick, these, rests):
        """One side does this at a tick, the other one has one of the rests."""
        self._put(found, tick, these[0], rests[1])
        self._put(found, tick, rests[0], these[1])

    def _put(self, found, tick, one, other):
        """The number of both sides together."""
        first = self.manner.joined(NOTHING_YET, 0, one, 0)
        found.put(tick, self.manner.joined(first, 0, other, 1))


class Want(Source):
    """A part whose fails are answers."""

    def __init__(self, manner, part):
        super().__init__(manner, part.longest)
        self.part = part

    def reckoned(self, left, wanted):
        ways = self.part.ways(left, wanted)
        ended = Found(self.manner)
        ended.put_row(ways.ended)
        ended.put_row(ways.failed)
        return Ways(ended.row(), {}, ways.stopped)


def either(manner, one, other):
    """The ways of one or the other."""
    rows = []
    for pair in ((one.ended, other.ended), (one.failed, other.failed), (one.stopped, other.stopped)):
        found = Found(manner)
        found.put_row(pair[0])
        found.put_row(pair[1])
        rows.append(found.row())
    return Ways(rows[0], rows[1], rows[2])


def later(ticks, tick):
    """What is left, at a tick, of so many ticks, or None."""
    return None if ticks is None else max(0, ticks - tick)


def longest_of(longest, at_once):
    """The longest that parts last, at once or one behind the other; None if this is not known of one."""
    if None in longest:
        return None
    return max(longest) if at_once else sum(longest)


def told_ticks(row):
    """A row without the ticks at which there is no way."""
    return {tick: row[tick] for tick in row if len(row[tick]) > 0}


def ticks_of(rows):
    """All ticks of some ways, ascending."""
    found = []
    for ways in rows:
        found += list(ways.ended) + list(ways.failed) + list(ways.stopped)
    return sorted(set(found))
