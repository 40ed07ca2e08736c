"""Numbers of ways, and how those of parts are put together.

A number is a tuple of rungs (faults, value, trace), both ascending: with at most so many faults the greatest value
is this one, and the trace tells choices of a way that reaches it. Where faults are not counted, it has one rung. A
number without a rung stands for no way.

A trace is None, or a tuple (ahead, index, inner): ahead is a trace from the same place, inner the trace of what
stands under this index, with HERE one more trace from the same place; without an index, inner is the choice at the
place itself.
"""

HERE = -1
NO_NUMBER = ()
NOTHING_YET = ((0, 0, None),)


class Manner:
    """How numbers are put together: added, or the greater one; by faults or not; with an eye on who is unwanted."""

    def __init__(self, most_faults=None, is_greatest=False, minds_wanted=False):
        self.kind = (most_faults, is_greatest)
        self.is_greatest = is_greatest
        self.minds_wanted = minds_wanted
        self.counts_faults = most_faults is not None
        self.most_faults = most_faults if self.counts_faults else 0
        # What a choice that is a fault adds to the faults of a way.
        self.fault = 1 if self.counts_faults else 0

    def single(self, value, faults, choice=None):
        """The number of one way, with a choice at its place."""
        if faults > self.most_faults:
            return NO_NUMBER
        return ((faults, value, None if choice is None else (None, None, choice)),)

    def marked(self, number, choice, faults=0):
        """A number of ways for which a choice, with so many faults, is made at their place."""
        rungs = [(ahead + faults, value, (trace, None, choice)) for ahead, value, trace in number]
        return tuple([rung for rung in rungs if rung[0] <= self.most_faults])

    def joined(self, one, at, other, index):
        """The number of both, where the other one begins at a tick and stands under an index."""
        if len(one) == 0 or len(other) == 0:
            return NO_NUMBER
        if not self.counts_faults:
            _, ahead, trace = one[0]
            _, value, inner = other[0]
            value = max(ahead, at + value) if self.is_greatest else ahead + value
            return ((0, value, (trace, index, inner)),)
        found = Found(self)
        found.put_behind(one, at, {0: other}, index)
        return found.row().get(at, NO_NUMBER)

    def greatest(self, numbers):
        """The greatest of some numbers."""
        told = [number for number in numbers if len(number) > 0]
        if len(told) < 2:
            return told[0] if len(told) == 1 else NO_NUMBER
        if not self.counts_faults:
            best = told[0]
            for number in told:
                if number[0][1] > best[0][1]:
                    best = number
            return best
        found = Found(self)
        for number in told:
            found.put(0, number)
        return found.row().get(0, NO_NUMBER)


class Found:
    """The greatest numbers that were found for some ticks."""

    def __init__(self, manner):
        self.manner = manner
        # For each number of faults, a dict from ticks to tuples (value, trace).
        self.by_faults = [{} for _ in range(manner.most_faults + 1)]

    def put(self, tick, number):
        """A number of other ways for a tick."""
        for faults, value, trace in number:
            best = self.by_faults[faults]
            if tick not in best or value > best[tick][0]:
                best[tick] = (value, trace)

    def put_row(self, row):
        """The numbers of other ways, a dict from ticks."""
        for tick, number in row.items():
            self.put(tick, number)

    def put_behind(self, one, at, row, index):
        """A number, and behind it, from a tick on and under an index, those of a row."""
        is_greatest = self.manner.is_greatest
        for ahead, number, trace in one:
            layers = self.by_faults[ahead:]
            most = len(layers) - 1
            for tick, other in row.items():
                tick = tick + at
                for faults, value, inner in other:
                    if faults > most:
                        break
                    value = max(number, at + value) if is_greatest else number + value
                    best = layers[faults]
                    if tick not in best or value > best[tick][0]:
                        best[tick] = (value, (trace, index, inner))

    def row(self):
        """The greatest numbers, a dict from ticks."""
        if len(self.by_faults) == 1:
            best = self.by_faults[0]
            return {tick: ((0, best[tick][0], best[tick][1]),) for tick in best}
        rungs = {}
        for faults, best in enumerate(self.by_faults):
            for tick, (value, trace) in best.items():
                below = rungs.setdefault(tick, [])
                if len(below) == 0 or value > below[-1][1]:
                    below.append((faults, value, trace))
        return {tick: tuple(rungs[tick]) for tick in rungs}


def raised(number, cost):
    """A number of ways that cost more."""
    if cost == 0:
        return number
    return tuple([(faults, value + cost, trace) for faults, value, trace in number])


def rung_with(number, faults):
    """The rung of a number for at most so many faults, or None."""
    rungs = [rung for rung in number if rung[0] <= faults]
    return rungs[-1] if len(rungs) > 0 else None


def choices_of(trace):
    """The choices that a trace tells, a dict from paths."""
    choices = {}
    left = [((), trace)]
    while len(left) > 0:
        path, rest = left.pop()
        while rest is not None:
            ahead, index, inner = rest
            if index is None:
                choices[path] = inner
            elif inner is not None:
                left.append((path if index == HERE else path + (index,), inner))
            rest = ahead
    return choices
