"""Changes: offers to change policies, wishes, the least choice with which all wishes hold, and papers that show it."""

from mostcalls.blocks import calls_in_order
from mostcalls.checks import is_between, is_count
from mostcalls.counts import Counts
from mostcalls.errors import InvalidChoice, InvalidOffer, InvalidStep, InvalidWish, TooLong
from mostcalls.machine import play
from mostcalls.measures import is_measure
from mostcalls.patterns import Pattern
from mostcalls.policies import accepts
from mostcalls.systems import System
from mostcalls.times import answer_times, slowest

MOST_OFFERS = 8
MOST_COST = 99


def changed_system(system, offers, choice):
    """The system with a choice of offers."""
    _check_offers(system, offers)
    if not _is_choice(offers, choice):
        raise InvalidStep(choice)
    return _with_choice(system, offers, choice)


def least_change(system, offers, wishes):
    """A tuple (cost, choice) of the first choice with which all wishes hold, or None."""
    _check(system, offers, wishes)
    choice = Search(system, offers, wishes).first_choice()
    return None if choice is None else (_cost_of(offers, choice), choice)


def change_paper(system, offers, wishes):
    """A change paper that is right, None if no choice holds."""
    _check(system, offers, wishes)
    search = Search(system, offers, wishes)
    choice = search.first_choice()
    if choice is None:
        return None
    return (choice, tuple([search.row_of(other) for other in _choices_ahead(offers, choice)]))


def check_change(system, offers, wishes, paper):
    """The choice that any value shows, None if it is no change paper that is right."""
    _check(system, offers, wishes)
    if not isinstance(paper, tuple) or len(paper) != 2 or not _is_choice(offers, paper[0]):
        return None
    choice, rows = paper
    ahead = _choices_ahead(offers, choice)
    if not isinstance(rows, tuple) or len(rows) != len(ahead):
        return None
    if not all([_is_right(system, offers, wishes, row, other) for row, other in zip(rows, ahead)]):
        return None
    return choice if Search(system, offers, wishes).all_hold(choice) else None


class Search:
    """What tells which wishes hold with which choices; what cannot change a wish's number is not reckoned again."""

    def __init__(self, system, offers, wishes):
        self.world = system
        self.offers = offers
        self.wishes = wishes
        self.reached = [_policies_reached(system, entry) for _, entry, _ in wishes]
        self.known = {}

    def first_choice(self):
        """The first choice, in order, with which all wishes hold, or None."""
        for choice in _choices_in_order(self.offers):
            if self.all_hold(choice):
                return choice
        return None

    def all_hold(self, choice):
        """Whether all wishes hold with a choice."""
        changed = _changed_or_none(self.world, self.offers, choice)
        return changed is not None and self._first_broken(changed, choice) is None

    def row_of(self, choice):
        """The row of a change paper which shows that not all wishes hold with a choice."""
        changed = _changed_or_none(self.world, self.offers, choice)
        if changed is None:
            return (choice, None, None)
        index = self._first_broken(changed, choice)
        return (choice, index, _pattern_of_greatest(changed, self.wishes[index]))

    def _first_broken(self, changed, choice):
        """The index of the first wish that does not hold in the system with a choice, None if all do."""
        for index, wish in enumerate(self.wishes):
            key = (index, tuple([at for at in choice if self.offers[at][0] in self.reached[index]]))
            if key not in self.known:
                self.known[key] = _holds(changed, wish)
            if not self.known[key]:
                return index
        return None


def _holds(system, wish):
    """Whether a wish holds in a system."""
    measure, entry, most = wish
    if measure[0] == "answer":
        ticks = answer_times(system, entry)
        return ticks is None or ticks[1] <= most
    return Counts(system, measure).greatest(entry) <= most


def _pattern_of_greatest(system, wish):
    """A pattern that reaches the greatest number of a wish that does not hold."""
    measure, entry, _ = wish
    return slowest(system, entry) if measure[0] == "answer" else Counts(system, measure).best(entry)


def _is_right(system, offers, wishes, value, choice):
    """Whether any value is a row which shows that not all wishes hold with a choice."""
    if not isinstance(value, tuple) or len(value) != 3 or not _is_choice(offers, value[0]) or value[0] != choice:
        return False
    _, index, pattern = value
    changed = _changed_or_none(system, offers, choice)
    if changed is None:
        return index is None and pattern is None
    if not is_between(index, 0, len(wishes) - 1) or not isinstance(pattern, Pattern):
        return False
    return pattern.entry == wishes[index][1] and _exceeds(changed, pattern, wishes[index])


def _exceeds(system, pattern, wish):
    """Whether the run of a pattern shows more than a wish allows."""
    try:
        told = play(system, pattern)
    except InvalidChoice:
        return False
    measure, _, most = wish
    if measure[0] == "answer":
        return told.how == "answered" and told.end > most
    return told.measured(measure) > most


def _with_choice(system, offers, choice):
    """The system with a right choice of offers."""
    fields = {name: {} for name in system.policies()}
    for index in choice:
        policy, field, value, _ = offers[index]
        fields[policy][field] = value
    policies = [_with_fields(system.policy(name), fields[name]) for name in fields]
    return System(policies, [(name, system[name]) for name in system])


def _with_fields(policy, fields):
    """A policy with other values in some fields; with other tries, pauses and early stay as far as they can."""
    told = dict(fields)
    if "tries" in fields:
        many = fields["tries"]
        if policy.early is None:
            told["pauses"] = (policy.pauses + (0, 0))[:many - 1]
        elif many == 1:
            told["early"] = None
    return policy.changed(**told)


def _changed_or_none(system, offers, choice):
    """The system with a right choice of offers, None if it is too long."""
    try:
        return _with_choice(system, offers, choice)
    except TooLong:
        return None


def _choices_in_order(offers):
    """All choices, by cost, then by length, then as tuples."""
    choices = [()]
    for index in range(len(offers)):
        longer = [choice + (index,) for choice in choices]
        choices = choices + [choice for choice in longer if _is_choice(offers, choice)]
    rows = sorted([(_cost_of(offers, choice), len(choice), choice) for choice in choices])
    return [choice for _, _, choice in rows]


def _choices_ahead(offers, choice):
    """All choices ahead of one, in order."""
    choices = _choices_in_order(offers)
    return choices[:choices.index(choice)]


def _cost_of(offers, choice):
    """What the offers of a choice cost together."""
    return sum([offers[index][3] for index in choice])


def _policies_reached(system, entry):
    """The names of the policies by which a request at an entry can call, as keys of a dict."""
    policies = {}
    services = {}
    left = [entry]
    while len(left) > 0:
        name = left.pop()
        if name not in services:
            services[name] = True
            for _, callee, policy in calls_in_order(system[name]):
                policies[policy] = True
                left.append(callee)
    return policies


def _check(system, offers, wishes):
    """Raises the errors of offers, then those of wishes."""
    _check_offers(system, offers)
    if not isinstance(wishes, list):
        raise InvalidWish(None)
    for number, wish in enumerate(wishes):
        if not _is_wish(system, wish):
            raise InvalidWish(number)


def _check_offers(system, offers):
    """Raises InvalidOffer unless these are offers."""
    if not isinstance(offers, list) or len(offers) > MOST_OFFERS:
        raise InvalidOffer(None)
    for number, offer in enumerate(offers):
        if not _is_offer(system, offer):
            raise InvalidOffer(number)


def _is_offer(system, value):
    """Whether any value is an offer."""
    if not isinstance(value, tuple) or len(value) != 4:
        return False
    policy, field, worth, cost = value
    if not isinstance(policy, str) or policy not in system.policies() or not isinstance(field, str):
        return False
    return accepts(field, worth) and is_between(cost, 1, MOST_COST)


def _is_wish(system, value):
    """Whether any value is a wish."""
    if not isinstance(value, tuple) or len(value) != 3 or value[1] not in system or not is_count(value[2]):
        return False
    measure = value[0]
    if not is_measure(measure, system):
        return _is_answer(measure)
    return len(measure) < 3


def _is_answer(value):
    """Whether any value is the measure of the longest time until an answer."""
    return isinstance(value, tuple) and len(value) == 1 and isinstance(value[0], str) and value[0] == "answer"


def _is_choice(offers, value):
    """Whether any value is a tuple of ascending indexes of offers, no two of the same policy and field."""
    if not isinstance(value, tuple) or not all([is_between(index, 0, len(offers) - 1) for index in value]):
        return False
    if not all([value[place] < value[place + 1] for place in range(len(value) - 1)]):
        return False
    return len({offers[index][:2] for index in value}) == len(value)
