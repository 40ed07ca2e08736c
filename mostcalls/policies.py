"""Policies: how long a caller waits, how often it tries, and what becomes of tries given up."""

from mostcalls.checks import is_between, is_name
from mostcalls.errors import InvalidName, InvalidPolicy

MOST_LIMIT = 20
MOST_TRIES = 3
FIELDS = ("limit", "tries", "pauses", "early", "lossy", "ending")


class Policy:
    """A policy; its fields are never changed, `changed` gives another one."""

    def __init__(self, name, limit, *, tries=1, pauses=None, early=None, lossy=False, ending=("go",)):
        if not is_name(name):
            raise InvalidName(name)
        field = _wrong_field(limit, tries, pauses, early, lossy, ending)
        if field is not None:
            raise InvalidPolicy(field)
        self._name = name
        self._limit = limit
        self._tries = tries
        self._pauses = _all_pauses(tries, pauses, early)
        self._early = early
        self._lossy = lossy
        self._ending = ending

    @property
    def name(self):
        """The name of the policy."""
        return self._name

    @property
    def limit(self):
        """How many ticks the caller waits for a try."""
        return self._limit

    @property
    def tries(self):
        """How many tries a call makes at most."""
        return self._tries

    @property
    def pauses(self):
        """The ticks ahead of each further try, () with early."""
        return self._pauses

    @property
    def early(self):
        """The ticks from the beginning of a try to that of the next one, or None."""
        return self._early

    @property
    def lossy(self):
        """Whether what the handler tells can be lost."""
        return self._lossy

    @property
    def ending(self):
        """What becomes of the handler run of a try that is given up."""
        return self._ending

    def __eq__(self, other):
        return isinstance(other, Policy) and self._fields() == other._fields()

    def changed(self, **fields):
        """A policy with other values in these fields."""
        for word in fields:
            if word not in FIELDS:
                raise InvalidPolicy(word)
        told = {
            "limit": self._limit,
            "tries": self._tries,
            "pauses": self._pauses if self._early is None else None,
            "early": self._early,
            "lossy": self._lossy,
            "ending": self._ending,
        }
        if "tries" in fields or "early" in fields:
            # The pauses of the policy itself need not fit other tries.
            told["pauses"] = None
        for word in fields:
            told[word] = fields[word]
        return Policy(self._name, **told)

    def _fields(self):
        """All seven fields, by which policies are equal."""
        return (self._name, self._limit, self._tries, self._pauses, self._early, self._lossy, self._ending)


def accepts(field, value):
    """Whether a policy accepts a value of a field that is told by itself: its limit, its tries, or its ending."""
    if field == "limit":
        return is_between(value, 1, MOST_LIMIT)
    if field == "tries":
        return is_between(value, 1, MOST_TRIES)
    return field == "ending" and _is_ending(value)


def _wrong_field(limit, tries, pauses, early, lossy, ending):
    """The first field that is wrong, or None; each is looked at when those ahead of it are right."""
    if not accepts("limit", limit):
        return "limit"
    if not accepts("tries", tries):
        return "tries"
    if pauses is not None and not (early is None and _are_pauses(pauses, tries)):
        return "pauses"
    if early is not None and not (tries > 1 and is_between(early, 1, 20)):
        return "early"
    if not isinstance(lossy, bool):
        return "lossy"
    if not accepts("ending", ending):
        return "ending"
    return None


def _are_pauses(value, tries):
    """Whether a value tells the ticks ahead of each further try."""
    return isinstance(value, tuple) and len(value) == tries - 1 and all([is_between(ticks, 0, 8) for ticks in value])


def _is_ending(value):
    """Whether a value is one of the three endings."""
    if not isinstance(value, tuple) or len(value) == 0 or not isinstance(value[0], str):
        return False
    if value[0] == "stop":
        return len(value) == 2 and is_between(value[1], 0, 20)
    return len(value) == 1 and value[0] in ("go", "deadline")


def _all_pauses(tries, pauses, early):
    """The pauses, where None stands for pauses of 0."""
    if early is not None:
        return ()
    if pauses is None:
        return (0,) * (tries - 1)
    return pauses
