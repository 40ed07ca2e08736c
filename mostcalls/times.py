"""Times: how long requests can last, calls that cannot be answered, and limits that do harm."""

from mostcalls.blocks import is_call, parts_in_order
from mostcalls.counts import Counts
from mostcalls.errors import InvalidMeasure, TooLong, UnknownName
from mostcalls.measures import is_measure

LAST = ("last",)
MOST_LIMIT = 20


def answer_times(system, entry):
    """The least and the longest of the ticks at which a request can answer, or None."""
    return _least_and_longest(_counts(system, entry).ends(entry, "answered"))


def fail_times(system, entry):
    """The least and the longest of the ticks at which a request can fail, or None."""
    return _least_and_longest(_counts(system, entry).ends(entry, "failed"))


def last_tick(system, entry):
    """The greatest tick at which a handler run of a request can end."""
    return _counts(system, entry).greatest(entry)


def slowest(system, entry):
    """A pattern of the longest answer, or None."""
    counts = _counts(system, entry)
    ticks = counts.ends(entry, "answered")
    return counts.best_at(entry, "answered", ticks[-1]) if len(ticks) > 0 else None


def latest(system, entry):
    """A pattern that reaches the last tick."""
    return _counts(system, entry).best(entry)


def hopeless(system):
    """The tuples (service, place) of all calls whose limit is less than the least time of an answer, in order."""
    counts = Counts(system, LAST)
    found = []
    for name in system:
        for place, (part, _) in enumerate(parts_in_order(system[name])):
            if is_call(part):
                ticks = counts.ends(part[1], "answered")
                if len(ticks) == 0 or system.policy(part[2]).limit < ticks[0]:
                    found.append((name, place))
    return found


def inversions(system, entry, measure, policy):
    """The limits of a policy with which the greatest number is greater than with the next one, ascending."""
    if entry not in system:
        raise UnknownName(entry)
    if not is_measure(measure, system) or len(measure) > 2:
        raise InvalidMeasure(measure)
    terms = system.policy(policy)
    numbers = [_number_with(system, entry, measure, terms, limit) for limit in range(1, MOST_LIMIT + 1)]
    found = []
    for limit in range(1, MOST_LIMIT):
        number, following = numbers[limit - 1], numbers[limit]
        if number is not None and following is not None and number > following:
            found.append(limit)
    return found


def _counts(system, entry):
    """The last ticks of a system that has this entry."""
    if entry not in system:
        raise UnknownName(entry)
    return Counts(system, LAST)


def _least_and_longest(ticks):
    """The first and the last of ascending ticks, or None."""
    return (ticks[0], ticks[-1]) if len(ticks) > 0 else None


def _number_with(system, entry, measure, terms, limit):
    """The greatest number with another limit of a policy, None if the system is too long with it."""
    try:
        changed = system.with_policy(terms.changed(limit=limit))
    except TooLong:
        return None
    return Counts(changed, measure).greatest(entry)
