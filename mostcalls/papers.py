"""Bound papers: rows of services that show a number which no pattern exceeds, and a checker that goes through them."""

from mostcalls.checks import is_count, is_integer
from mostcalls.errors import InvalidMeasure, UnknownName
from mostcalls.measures import is_measure
from mostcalls.reckoning import Blocks, Reckoning, manner_of
from mostcalls.telling import rows_of, value_of, values_of, ways_of
from mostcalls.ways import Ways


def bound_paper(system, entry, measure):
    """A bound paper that shows the greatest number: all rows on which those of the entry rest."""
    _check(system, entry, measure)
    return paper_from(Reckoning(system, measure), entry)


def paper_from(reckoning, entry):
    """The bound paper of an entry that a reckoning, of which nothing else was asked, tells."""
    reckoning.of_request(entry)
    paper = []
    for name, service in reckoning.by_name.items():
        for left, wanted in sorted(service.asked, key=_order):
            ways = service.asked[(left, wanted)]
            rows = [values_of(reckoning.manner, row) for row in (ways.ended, ways.failed, ways.stopped)]
            paper.append((name, left, wanted) + tuple([tuple(list(row.items())) for row in rows]))
    return tuple(paper)


def check_bound(system, entry, measure, paper):
    """The number that any value shows, None if it is no bound paper that is right."""
    _check(system, entry, measure)
    manner = manner_of(measure)
    if not _is_paper(system, manner, paper):
        return None
    told = {row[:3]: row[3:] for row in paper}
    if len(told) < len(paper) or (entry, None, None) not in told:
        return None
    book = Book(system, measure, told)
    if not all([book.holds(name, left, wanted) for name, left, wanted in told]):
        return None
    answers, fails, stops = told[(entry, None, None)]
    return rows_of(manner, ways_of(manner, dict(answers), dict(fails), dict(stops))).greatest()


class Book:
    """The rows that a paper tells: a dict from tuples (service, left, wanted) to the three rows."""

    def __init__(self, system, measure, told):
        self.told = told
        self.lacks_rows = False
        self.known = {}
        blocks = Blocks(system, measure, {name: Told(self, name) for name in system})
        self.manner = blocks.manner
        self.by_name = {name: blocks.of_service(name) for name in system}

    def ways(self, service, left, wanted):
        """The told rows as ways; none if they are not told."""
        key = (service, left, wanted)
        if key not in self.told:
            self.lacks_rows = True
            return Ways({}, {}, {})
        if key not in self.known:
            answers, fails, stops = self.told[key]
            self.known[key] = ways_of(self.manner, dict(answers), dict(fails), dict(stops))
        return self.known[key]

    def holds(self, service, left, wanted):
        """Whether the rows that come of the block, with the told rows of the called services, are told, or less."""
        ways = self.by_name[service].ways(left, wanted)
        rows = self.told[(service, left, wanted)]
        if self.lacks_rows:
            return False
        pairs = [(ways.ended, dict(rows[0])), (ways.failed, dict(rows[1])), (ways.stopped, dict(rows[2]))]
        return all([self._bounds(row, told) for row, told in pairs])

    def _bounds(self, row, told):
        """Whether each number of a row is told, or a greater one."""
        return all([tick in told and is_at_most(value_of(self.manner, row[tick]), told[tick]) for tick in row])


class Told:
    """The ways of a service as a book tells them."""

    def __init__(self, book, service):
        self.book = book
        self.service = service

    def ways(self, left, wanted):
        """The told rows as ways."""
        return self.book.ways(self.service, left, wanted)


def is_at_most(value, other):
    """Whether a value is at most another one: an integer, or each element of a tuple, where None is least."""
    if is_integer(value):
        return value <= other
    pairs = [(value[place], other[place]) for place in range(len(value))]
    return all([one is None or two is not None and one <= two for one, two in pairs])


def _check(system, entry, measure):
    """Raises the errors of both functions."""
    if entry not in system:
        raise UnknownName(entry)
    if not is_measure(measure, system):
        raise InvalidMeasure(measure)


def _order(key):
    """By ticks left, then by ticks until unwanted, None first."""
    return tuple([-1 if ticks is None else ticks for ticks in key])


def _is_paper(system, manner, value):
    """Whether any value has the form of a bound paper."""
    return isinstance(value, tuple) and all([_is_entry(system, manner, row) for row in value])


def _is_entry(system, manner, value):
    """Whether any value has the form of the rows of a service."""
    if not isinstance(value, tuple) or len(value) != 6 or value[0] not in system:
        return False
    left, wanted = value[1], value[2]
    if left is not None and not is_count(left) or wanted is not None and not (manner.minds_wanted and is_count(wanted)):
        return False
    return all([_is_told(manner, row) for row in value[3:]])


def _is_told(manner, value):
    """Whether any value is a tuple of tuples (tick, number), with ascending ticks."""
    if not isinstance(value, tuple):
        return False
    if not all([isinstance(pair, tuple) and len(pair) == 2 and is_count(pair[0]) for pair in value]):
        return False
    if not all([_is_number(manner, number) for _, number in value]):
        return False
    return all([value[place][0] < value[place + 1][0] for place in range(len(value) - 1)])


def _is_number(manner, value):
    """Whether any value is a number that a paper can tell: an integer, or a tuple with one at its end."""
    if not manner.counts_faults:
        return is_integer(value)
    if not isinstance(value, tuple) or len(value) != manner.most_faults + 1 or not is_integer(value[-1]):
        return False
    return all([number is None or is_integer(number) for number in value])
