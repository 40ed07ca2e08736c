"""Tables: rows for each number of ticks that are left to a deadline, and how those of parts are put together."""

from mostcalls.checks import is_count
from mostcalls.errors import InvalidNumber, InvalidTable
from mostcalls.manners import Manner
from mostcalls.telling import rows_of, ways_of
from mostcalls.ways import Both, Chain, Either, Risk, Work


class Recipe:
    """The function of a table that the package makes from a source of ways."""

    def __init__(self, manner, source):
        self.manner = manner
        self.source = source

    def __call__(self, left):
        return rows_of(self.manner, self.source.ways(left, None))


class Table:
    """The rows of a block, which a function tells for so many ticks left, or for None."""

    def __init__(self, rows):
        self._function = rows
        self._known = {}
        self._known_ways = {}
        self.manner = rows.manner if isinstance(rows, Recipe) else Manner()
        # A function can tell other rows for each number of ticks left.
        self.longest = None

    def __call__(self, left=None):
        if left is not None and not is_count(left):
            raise InvalidNumber(left)
        if left not in self._known:
            self._known[left] = self._function(left)
        return self._known[left]

    def ways(self, left, wanted):
        """The rows as ways; of no use where it matters who is unwanted."""
        if left not in self._known_ways:
            rows = self(left)
            self._known_ways[left] = ways_of(self.manner, rows.answers, rows.fails, rows.stops)
        return self._known_ways[left]

    def __rshift__(self, other):
        if not _fits(self, other):
            raise InvalidTable(other)
        return Table(Recipe(self.manner, Chain(self.manner, [self, other])))

    def __or__(self, other):
        if not _fits(self, other):
            raise InvalidTable(other)
        return Table(Recipe(self.manner, Either(self.manner, self, other)))

    def __and__(self, other):
        if not _fits(self, other):
            raise InvalidTable(other)
        return Table(Recipe(self.manner, Both(self.manner, self, other)))


def _fits(table, value):
    """Whether any value is a table whose numbers are put together as those of a table."""
    return isinstance(value, Table) and value.manner.kind == table.manner.kind


def empty_table():
    """The table of an empty block."""
    manner = Manner()
    return Table(Recipe(manner, Chain(manner, [])))


def risk_table():
    """The table of a risk."""
    manner = Manner()
    return Table(Recipe(manner, Risk(manner)))


def run_table(lo, hi, weight=0):
    """The table of a run from lo to hi, each tick of which counts as much as the weight."""
    for value in (lo, hi, weight):
        if not is_count(value):
            raise InvalidNumber(value)
    if hi < lo:
        raise InvalidNumber(hi)
    manner = Manner()
    return Table(Recipe(manner, Work(manner, lo, hi, weight)))
