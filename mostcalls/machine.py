"""The machine: plays a pattern, and tells what happened."""

from mostcalls.checks import is_path
from mostcalls.engine import Game, earliest
from mostcalls.errors import InvalidChoice, InvalidMeasure, UnknownName
from mostcalls.measures import is_measure


class Told:
    """The choices that a pattern tells; in place of an impossible one the least one counts."""

    def __init__(self, choices):
        self.by_path = choices
        self.wrong_paths = []

    def pick(self, path, low, high):
        """The choice for a path, from low to high."""
        choice = self.by_path.get(path, low)
        if low <= choice <= high:
            return choice
        self.wrong_paths.append(path)
        return low


def play(system, pattern):
    """The run of a pattern's entry."""
    if pattern.entry not in system:
        raise UnknownName(pattern.entry)
    told = Told(pattern.choices())
    game = Game(system, told)
    game.play(pattern.entry)
    if len(told.wrong_paths) > 0:
        raise InvalidChoice(min(told.wrong_paths))
    return Run(system, game)


class Run:
    """What happened in a request; `play` makes it."""

    def __init__(self, system, game):
        self._system = system
        self._spans = sorted([_span(visit) for visit in game.visits])
        self._met = sorted(game.chosen)
        self._worked = sorted(game.labor)
        self._fault_count = game.fault_count
        self._unwanted = {}
        # A caller stands ahead of those that it calls.
        for visit in game.visits:
            ticks = [visit.given]
            if visit.caller is not None:
                ticks.append(self._unwanted[visit.caller.path])
            self._unwanted[visit.path] = earliest(ticks)

    @property
    def how(self):
        """How the handler run of the entry ended."""
        return self._spans[0][4]

    @property
    def end(self):
        """The tick at which the handler run of the entry ended."""
        return self._spans[0][3]

    @property
    def last(self):
        """The greatest tick at which a handler run ended."""
        return max([span[3] for span in self._spans])

    @property
    def faults(self):
        """The number of faults."""
        return self._fault_count

    def spans(self):
        """The tuples (path, service, begin, end, how, given) of all handler runs, sorted."""
        return list(self._spans)

    def met(self):
        """The tuples (path, choice) of all choices that were met, sorted."""
        return list(self._met)

    def worked(self):
        """The tuples (path, service, begin, end) of all run parts, sorted, with the paths of their handler runs."""
        return list(self._worked)

    def unwanted(self, path):
        """The tick from which the handler run of a path is unwanted, or None."""
        if not is_path(path) or path not in self._unwanted:
            raise InvalidChoice(path)
        return self._unwanted[path]

    def measured(self, measure):
        """The number of a measure; by number of faults if the measure has a third element."""
        if not is_measure(measure, self._system):
            raise InvalidMeasure(measure)
        number = self._number(measure)
        if len(measure) < 3:
            return number
        return tuple([None if self._fault_count > most else number for most in range(measure[2] + 1)])

    def __len__(self):
        return len(self._spans)

    def __iter__(self):
        return iter(self._spans)

    def __eq__(self, other):
        return isinstance(other, Run) and self._spans == other._spans

    def _number(self, measure):
        """The number of a measure, whatever the faults are."""
        if measure[0] == "last":
            return self.last
        if measure[0] == "calls":
            return len([span for span in self._spans if span[1] == measure[1] and span[0] != ()])
        labor = [row for row in self._worked if row[1] == measure[1]]
        if measure[0] == "work":
            return sum([row[3] - row[2] for row in labor])
        return sum([_ticks_for_nobody(self._unwanted[row[0]], row[2], row[3]) for row in labor])


def _span(visit):
    """The tuple that tells of a handler run."""
    return (visit.path, visit.service, visit.began, visit.over, visit.outcome, visit.given)


def _ticks_for_nobody(unwanted, begin, end):
    """How many ticks of a part lie behind the one from which its handler run is unwanted."""
    if unwanted is None:
        return 0
    return max(0, end - max(begin, unwanted))
