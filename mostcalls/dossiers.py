"""Dossiers: all numbers of an entry, with patterns that reach them and papers that show them, and a checker."""

from mostcalls.checks import is_count, is_integer, is_path
from mostcalls.counts import Counts
from mostcalls.errors import InvalidChoice, UnknownName
from mostcalls.machine import play
from mostcalls.papers import check_bound, paper_from
from mostcalls.patterns import Pattern

LAST = ("last",)
ANSWER = ("answer",)


def dossier(system, entry):
    """A dossier of an entry that is right."""
    _check(system, entry)
    rows = [Counts(system, measure) for measure in _measures(system)]
    return (entry, tuple([_case(counts, entry) for counts in rows]), _times(rows[-1], entry))


def check_dossier(system, entry, value):
    """The numbers that any value shows, by measures, None if it is no dossier of this entry that is right."""
    _check(system, entry)
    measures = _measures(system)
    if not _is_dossier(value, entry, len(measures)):
        return None
    _, cases, times = value
    numbers = {}
    for measure, case in zip(measures, cases):
        if not _is_right(system, entry, measure, case):
            return None
        numbers[measure] = case[1]
    ticks = _ticks_told(entry, cases[-1][3])
    if not _are_right(system, entry, ticks, times):
        return None
    numbers[ANSWER] = ticks
    return numbers


def _check(system, entry):
    """Raises UnknownName unless there is such an entry."""
    if entry not in system:
        raise UnknownName(entry)


def _measures(system):
    """The measures of the cases, in order."""
    return [(kind, name) for kind in ("calls", "work", "nobody") for name in system] + [LAST]


def _case(counts, entry):
    """The case of a measure."""
    choices = tuple(counts.best(entry))
    return (counts.measure, counts.greatest(entry), choices, paper_from(counts.reckoned(), entry))


def _times(counts, entry):
    """The times of a dossier, by the counts of last ticks: the least and the longest answer, with choices, or None."""
    ticks = counts.ends(entry, "answered")
    if len(ticks) == 0:
        return None
    return tuple([(tick, tuple(counts.best_at(entry, "answered", tick))) for tick in (ticks[0], ticks[-1])])


def _is_dossier(value, entry, many):
    """Whether any value has the form of a dossier of an entry with so many cases; cases are not looked at."""
    if not isinstance(value, tuple) or len(value) != 3 or not isinstance(value[0], str) or value[0] != entry:
        return False
    return isinstance(value[1], tuple) and len(value[1]) == many


def _is_right(system, entry, measure, value):
    """Whether any value is a case of a measure that is right."""
    if not isinstance(value, tuple) or len(value) != 4 or not _is_measure(measure, value[0]):
        return False
    _, number, choices, paper = value
    told = _run_by(system, entry, choices)
    if not is_integer(number) or told is None or told.measured(measure) != number:
        return False
    return check_bound(system, entry, measure, paper) == number


def _is_measure(measure, value):
    """Whether any value is this measure."""
    return isinstance(value, tuple) and all([isinstance(word, str) for word in value]) and value == measure


def _run_by(system, entry, value):
    """The run by choices, any value, None if these are none of a pattern, or are impossible."""
    if not _are_choices(value):
        return None
    try:
        return play(system, Pattern(entry, {path: choice for path, choice in value}))
    except InvalidChoice:
        return None


def _are_choices(value):
    """Whether any value is a tuple of tuples (path, choice), by ascending paths."""
    if not isinstance(value, tuple) or not all([isinstance(row, tuple) and len(row) == 2 for row in value]):
        return False
    if not all([is_path(path) and len(path) > 0 and is_count(choice) for path, choice in value]):
        return False
    return all([value[place][0] < value[place + 1][0] for place in range(len(value) - 1)])


def _ticks_told(entry, paper):
    """The first and the last tick at which a right paper tells an answer of an entry, None if it tells none."""
    for service, left, wanted, answers, _, _ in paper:
        if service == entry and left is None and wanted is None and len(answers) > 0:
            return (answers[0][0], answers[-1][0])
    return None


def _are_right(system, entry, ticks, value):
    """Whether any value tells choices by which an entry answers at these two ticks; None, if there are none."""
    if ticks is None or not isinstance(value, tuple) or len(value) != 2:
        return ticks is None and value is None
    return all([_answers_at(system, entry, tick, row) for tick, row in zip(ticks, value)])


def _answers_at(system, entry, tick, value):
    """Whether any value is a tuple of this tick and of choices by which an entry answers at it."""
    if not isinstance(value, tuple) or len(value) != 2 or not is_integer(value[0]) or value[0] != tick:
        return False
    told = _run_by(system, entry, value[1])
    return told is not None and told.how == "answered" and told.end == tick
