"""Telling: numbers and ways as they are told outside, as integers or tuples, and as Rows."""

from mostcalls.manners import rung_with
from mostcalls.rows import Rows
from mostcalls.ways import Ways


class FaultRows(Rows):
    """Rows with tuples of numbers, one for each number of faults, in place of integers."""

    def __init__(self, answers, fails, stops):
        super().__init__({}, {}, {})
        self._answers = dict(answers)
        self._fails = dict(fails)
        self._stops = dict(stops)

    def greatest(self):
        """The tuple of the greatest numbers of answers and fails, or None."""
        told = list(self._answers.values()) + list(self._fails.values())
        if len(told) == 0:
            return None
        columns = [[numbers[place] for numbers in told] for place in range(len(told[0]))]
        return tuple([max([number for number in column if number is not None], default=None) for column in columns])


def value_of(manner, number):
    """What a number that is one of some way tells: an integer, or a tuple."""
    if not manner.counts_faults:
        return number[0][1]
    rungs = [rung_with(number, faults) for faults in range(manner.most_faults + 1)]
    return tuple([None if rung is None else rung[1] for rung in rungs])


def number_of(manner, value):
    """The number that tells this value; it does not know by which choices."""
    values = value if manner.counts_faults else (value,)
    rungs = []
    for faults, told in enumerate(values):
        if told is not None and (len(rungs) == 0 or told > rungs[-1][1]):
            rungs.append((faults, told, None))
    return tuple(rungs)


def rows_of(manner, ways):
    """The Rows of some ways."""
    rows = [values_of(manner, row) for row in (ways.ended, ways.failed, ways.stopped)]
    if manner.counts_faults:
        return FaultRows(rows[0], rows[1], rows[2])
    return Rows(rows[0], rows[1], rows[2])


def values_of(manner, row):
    """A row with what its numbers tell, by ascending ticks."""
    return {tick: value_of(manner, row[tick]) for tick in sorted(row)}


def ways_of(manner, answers, fails, stops):
    """The ways that told rows tell, three dicts."""
    rows = [{tick: number_of(manner, row[tick]) for tick in row} for row in (answers, fails, stops)]
    return Ways(rows[0], rows[1], rows[2])
