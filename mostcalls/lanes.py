"""Lanes: an entry that makes one request after another, with a budget for further tries, and a breaker."""

from mostcalls.attempts import Attempt
from mostcalls.blocks import calls_in_order
from mostcalls.checks import is_between, is_count
from mostcalls.errors import InvalidChoices, InvalidLane, InvalidMeasure, InvalidState, InvalidStep, UnknownName
from mostcalls.machine import play
from mostcalls.manners import choices_of, raised
from mostcalls.measures import is_measure
from mostcalls.patterns import Pattern
from mostcalls.reckoning import Reckoning

MOST_GAP = 20


class Lane:
    """An entry that makes one request after another."""

    def __init__(self, system, entry, *, gap=(0, 0), budget=None, breaker=None):
        if entry not in system:
            raise UnknownName(entry)
        field = _wrong_field(system, entry, gap, budget, breaker)
        if field is not None:
            raise InvalidLane(field)
        self._system = system
        self._entry = entry
        self._gap = gap
        self._budget = budget
        self._breaker = breaker
        self._terms = system.policy(system[entry][0][2])
        self._tries_by_measure = {}
        tries = Tries(system, entry, ("last",))
        self._can_answer = len(tries.answered) > 0
        self._can_fail = len(tries.unanswered) > 0
        # For each state of the lane, a dict from ways to the states behind them, ahead of the gap.
        self._ends = self._all_ends()
        self._states = sorted(list(self._ends))
        self._all_ways = {ways: True for state in self._states for ways in self._ends[state]}

    @property
    def system(self):
        """The system."""
        return self._system

    @property
    def entry(self):
        """The entry that makes the requests."""
        return self._entry

    @property
    def gap(self):
        """The least and the most ticks between two requests."""
        return self._gap

    @property
    def budget(self):
        """What tries add and cost, and how many further ones can be paid at most; or None."""
        return self._budget

    @property
    def breaker(self):
        """After how many fails no try is let through, and for how many ticks; or None."""
        return self._breaker

    def first(self):
        """The first state."""
        return (0 if self._budget is None else self._budget[1] * self._budget[2], 0, 0)

    def steps(self, state):
        """The tuples (step, state behind it) of all steps that are possible in a state, in order."""
        if state not in self:
            raise InvalidState(state)
        ends = self._ends[state]
        found = []
        for ways in sorted(list(ends)):
            for gap in range(self._gap[0], self._gap[1] + 1):
                found.append(((ways, gap), _behind_gap(ends[ways], gap)))
        return found

    def after(self, state, step):
        """The state behind a step."""
        if state not in self:
            raise InvalidState(state)
        if not self.can_do(state, step):
            raise InvalidStep(step)
        return _behind_gap(self._ends[state][step[0]], step[1])

    def can_do(self, state, step):
        """Whether any value is a step that is possible in a state of the lane."""
        return self._is_step(step) and step[0] in self._ends[state]

    def weight(self, measure, step):
        """The greatest number that the tries of a step can cause."""
        tries = self.tries_for(measure)
        if not self._is_step(step) or step[0] not in self._all_ways:
            raise InvalidStep(step)
        return tries.weight_of(step[0])

    def request(self, state, pattern, gap):
        """What the machine does in a state by a pattern: the step, the state behind it, and the run, or None."""
        if state not in self:
            raise InvalidState(state)
        if not isinstance(pattern, Pattern) or pattern.entry != self._entry:
            raise InvalidChoices(pattern)
        ends = self._ends[state]
        ways = ()
        told = None
        while ways not in ends:
            told = play(self._with_tries(len(ways) + 1), pattern)
            ways = ways + (told.how == "answered",)
        if not self._is_gap(gap):
            raise InvalidStep(gap)
        return ((ways, gap), _behind_gap(ends[ways], gap), told)

    def tries_for(self, measure):
        """What tries can cause, for a measure of weights."""
        if not is_measure(measure, self._system) or len(measure) != 2:
            raise InvalidMeasure(measure)
        if measure not in self._tries_by_measure:
            self._tries_by_measure[measure] = Tries(self._system, self._entry, measure)
        return self._tries_by_measure[measure]

    def __contains__(self, x):
        return isinstance(x, tuple) and all([is_count(number) for number in x]) and x in self._ends

    def __len__(self):
        return len(self._states)

    def __iter__(self):
        return iter(self._states)

    def _all_ends(self):
        """The ways of all states that are reached from the first one, and the states behind them."""
        found = {self.first(): self._ends_of(self.first())}
        left = [self.first()]
        while len(left) > 0:
            ends = found[left.pop()]
            for state in list(ends.values()):
                for behind in self._behind_gaps(state):
                    if behind not in found:
                        found[behind] = self._ends_of(behind)
                        left.append(behind)
        return found

    def _behind_gaps(self, state):
        """The states behind all gaps, each once."""
        return sorted({_behind_gap(state, gap) for gap in range(self._gap[0], self._gap[1] + 1)})

    def _ends_of(self, state):
        """A dict from the ways that are possible in a state to the states behind them, ahead of the gap."""
        tokens, fails, closed = state
        if closed > 0:
            return {(): state}
        found = {}
        ways = ()
        whole = 0
        if self._budget is not None:
            whole = self._budget[1]
            tokens = min(tokens + self._budget[0], whole * self._budget[2])
        for pause in self._terms.pauses + (None,):
            if self._can_answer:
                found[ways + (True,)] = (tokens, 0, 0)
            if not self._can_fail:
                return found
            ways = ways + (False,)
            fails, closed = self._behind_fail(fails)
            if pause is not None:
                closed = max(0, closed - pause)
            if pause is None or closed > 0 or tokens < whole:
                found[ways] = (tokens, fails, closed)
                return found
            tokens = tokens - whole
        return found

    def _behind_fail(self, fails):
        """How many tries in a row were not answered, and the ticks for which none is let through, behind one more."""
        if self._breaker is None:
            return (0, 0)
        if fails + 1 == self._breaker[0]:
            return (fails, self._breaker[1])
        return (fails + 1, 0)

    def _is_gap(self, value):
        """Whether any value is a gap of this lane."""
        return is_between(value, self._gap[0], self._gap[1])

    def _is_step(self, value):
        """Whether any value has the form of a step."""
        if not isinstance(value, tuple) or len(value) != 2 or not isinstance(value[0], tuple):
            return False
        return all([isinstance(way, bool) for way in value[0]]) and self._is_gap(value[1])

    def _with_tries(self, many):
        """The system with so many tries of a request."""
        return self._system.with_policy(self._terms.changed(tries=many, pauses=self._terms.pauses[:many - 1]))


class Tries:
    """The greatest numbers of a request's try that is answered, and of one that is not."""

    def __init__(self, system, entry, measure):
        self.entry_name = entry
        callee, policy = system[entry][0][1:]
        reckoning = Reckoning(system, measure)
        terms = system.policy(policy)
        left = terms.limit if terms.ending[0] == "deadline" else None
        attempt = Attempt(reckoning.manner, terms, reckoning.by_name[callee], left, None)
        cost = 1 if measure == ("calls", callee) else 0
        self.answered = raised(reckoning.manner.greatest(list(attempt.answered.values())), cost)
        self.unanswered = raised(reckoning.manner.greatest(list(attempt.without_answer(None).values())), cost)

    def weight_of(self, ways):
        """The greatest number that tries which end so can cause."""
        return sum([self._rung(is_answered)[1] for is_answered in ways])

    def pattern_of(self, ways):
        """A pattern of a request whose tries end so, and cause their greatest number."""
        trace = None
        for index, is_answered in enumerate(ways):
            trace = (trace, index, self._rung(is_answered)[2])
        return Pattern(self.entry_name, choices_of((None, 0, trace)))

    def _rung(self, is_answered):
        """The greatest number of a try, and the choices of it."""
        return self.answered[0] if is_answered else self.unanswered[0]


def _wrong_field(system, entry, gap, budget, breaker):
    """The first field that is wrong, or None."""
    if not _is_caller(system, entry):
        return "entry"
    if not _are_between(gap, 2, 0, MOST_GAP) or gap[0] > gap[1]:
        return "gap"
    if budget is not None and not (_are_between(budget, 3, 1, 8) and budget[0] <= budget[1]):
        return "budget"
    if breaker is not None and not (_are_between(breaker, 2, 1, 12) and breaker[0] <= 4):
        return "breaker"
    return None


def _is_caller(system, entry):
    """Whether the entry's block is one call, by a policy without early that no other part uses."""
    block = system[entry]
    if len(block) != 1 or block[0][0] != "call":
        return False
    name = block[0][2]
    users = [part for service in system for part in calls_in_order(system[service]) if part[2] == name]
    return len(users) == 1 and system.policy(name).early is None


def _are_between(value, many, least, most):
    """Whether any value is a tuple of so many integers from least to most."""
    return isinstance(value, tuple) and len(value) == many and all([is_between(item, least, most) for item in value])


def _behind_gap(state, gap):
    """The state behind a gap."""
    return (state[0], state[1], max(0, state[2] - gap))
