"""Counts: the greatest numbers of a measure, exactly, with patterns that reach them."""

from mostcalls.checks import is_between, is_count
from mostcalls.errors import InvalidMeasure, InvalidNumber, UnknownName
from mostcalls.manners import choices_of, rung_with
from mostcalls.measures import is_measure
from mostcalls.patterns import Pattern
from mostcalls.reckoning import Reckoning
from mostcalls.tables import Recipe, Table
from mostcalls.telling import value_of


class Counts:
    """The greatest numbers of a measure for all services of a system."""

    def __init__(self, system, measure):
        if not is_measure(measure, system):
            raise InvalidMeasure(measure)
        self._measure = measure
        self._reckoning = Reckoning(system, measure)

    @property
    def measure(self):
        """The measure."""
        return self._measure

    def reckoned(self):
        """The reckoning on which the numbers rest."""
        return self._reckoning

    def table(self, name):
        """The table of a service's block."""
        return Table(Recipe(self._reckoning.manner, self._service(name)))

    def ends(self, name, how):
        """The ticks at which a request at this entry can end so, ascending."""
        return sorted(self._row(name, how))

    def number_at(self, name, how, tick):
        """The greatest number of the requests at this entry that end so at a tick, or None."""
        row = self._row(name, how)
        if not is_count(tick) or tick not in row:
            return None
        return value_of(self._reckoning.manner, row[tick])

    def greatest(self, name):
        """The greatest number of a request at this entry."""
        return value_of(self._reckoning.manner, self._reckoning.manner.greatest(self._numbers(name)))

    def best(self, name, faults=None):
        """A pattern that reaches the greatest number, of the runs with at most so many faults, or None."""
        return self._pattern(name, self._numbers(name), faults)

    def best_at(self, name, how, tick, faults=None):
        """Likewise for the runs in which the entry ends so at a tick."""
        row = self._row(name, how)
        numbers = [row[tick]] if is_count(tick) and tick in row else []
        return self._pattern(name, numbers, faults)

    def _service(self, name):
        """The ways of a service."""
        if not isinstance(name, str) or name not in self._reckoning.by_name:
            raise UnknownName(name)
        return self._reckoning.by_name[name]

    def _numbers(self, name):
        """The numbers of a request, of all ways to end."""
        ways = self._service(name).ways(None, None)
        return list(ways.ended.values()) + list(ways.failed.values())

    def _row(self, name, how):
        """The numbers of a request that ends so, by ticks; none for another value of how."""
        ways = self._service(name).ways(None, None)
        if not isinstance(how, str) or how not in ("answered", "failed"):
            return {}
        return ways.ended if how == "answered" else ways.failed

    def _pattern(self, name, numbers, faults):
        """A pattern for the greatest of some numbers, or None."""
        manner = self._reckoning.manner
        if faults is None:
            faults = manner.most_faults
        elif not manner.counts_faults or not is_between(faults, 0, manner.most_faults):
            raise InvalidNumber(faults)
        rung = rung_with(manner.greatest(numbers), faults)
        return None if rung is None else Pattern(name, choices_of(rung[2]))


def greatest_calls(system, entry):
    """The greatest number of calls of each service that a request at this entry can cause, by names."""
    if entry not in system:
        raise UnknownName(entry)
    return {name: Counts(system, ("calls", name)).greatest(entry) for name in system}
