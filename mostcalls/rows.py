"""Rows: the greatest numbers of a block for each tick at which it can end, fail, or be stopped."""

from mostcalls.checks import is_count, is_integer
from mostcalls.errors import InvalidRows


class Rows:
    """Three dicts from ticks to numbers; a tick without a number is one at which there is no way."""

    def __init__(self, answers, fails, stops):
        for row in (answers, fails, stops):
            if not _is_row(row):
                raise InvalidRows(row)
        self._answers = dict(answers)
        self._fails = dict(fails)
        self._stops = dict(stops)

    @property
    def answers(self):
        """The greatest numbers of all ways to end, by ticks."""
        return dict(self._answers)

    @property
    def fails(self):
        """The greatest numbers of all ways to fail, by ticks."""
        return dict(self._fails)

    @property
    def stops(self):
        """The greatest numbers of all ways to be stopped, by ticks."""
        return dict(self._stops)

    def greatest(self):
        """The greatest number of answers and fails, or None."""
        return max(list(self._answers.values()) + list(self._fails.values()), default=None)

    def __eq__(self, other):
        return isinstance(other, Rows) and self._rows() == other._rows()

    def _rows(self):
        """The three dicts, by which rows are equal."""
        return [self._answers, self._fails, self._stops]


def _is_row(value):
    """Whether any value is a dict from ticks to integers."""
    if not isinstance(value, dict):
        return False
    return all([is_count(tick) and is_integer(value[tick]) for tick in value])
