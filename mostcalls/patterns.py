"""Patterns: the choices of a request, and all patterns of an entry."""

from mostcalls.checks import is_count, is_name, is_path
from mostcalls.engine import Game
from mostcalls.errors import InvalidChoices, InvalidName, UnknownName


class Pattern:
    """Choices by paths, for a request of an entry."""

    def __init__(self, entry, choices):
        if not is_name(entry):
            raise InvalidName(entry)
        if not _are_choices(choices):
            raise InvalidChoices(choices)
        self._entry = entry
        self._choices = {path: choices[path] for path in choices}
        self._pairs = sorted([(path, choices[path]) for path in choices])

    @property
    def entry(self):
        """The service at which the request begins."""
        return self._entry

    def choices(self):
        """The choices by paths."""
        return {path: self._choices[path] for path in self._choices}

    def __call__(self, path):
        """The choice for a path, None for any other value."""
        if path not in self:
            return None
        return self._choices[path]

    def __contains__(self, x):
        return is_path(x) and x in self._choices

    def __len__(self):
        return len(self._choices)

    def __iter__(self):
        return iter(self._pairs)

    def __eq__(self, other):
        return isinstance(other, Pattern) and self._entry == other._entry and self._choices == other._choices

    def __or__(self, other):
        if not isinstance(other, Pattern) or other._entry != self._entry:
            raise InvalidChoices(other)
        choices = {}
        for path, choice in self._pairs + other._pairs:
            choices[path] = choice
        return Pattern(self._entry, choices)


def _are_choices(value):
    """Whether any value is a dict from paths to integers from 0 on."""
    if not isinstance(value, dict):
        return False
    return all([is_path(path) and len(path) > 0 and is_count(value[path]) for path in value])


class Script:
    """The choices of a run in the order in which they are met; what it does not tell yet is the least choice."""

    def __init__(self, told):
        self.told = told
        self.lows = []
        self.highs = []

    def pick(self, path, low, high):
        """The next choice, from low to high."""
        place = len(self.highs)
        self.lows.append(low)
        self.highs.append(high)
        return self.told[place] if place < len(self.told) else low

    def following(self):
        """What the script of the next run tells, None behind the last one."""
        taken = self.told + self.lows[len(self.told):]
        while len(taken) > 0 and taken[-1] == self.highs[len(taken) - 1]:
            taken.pop()
        if len(taken) == 0:
            return None
        return taken[:-1] + [taken[-1] + 1]


def all_patterns(system, entry):
    """Yields each pattern of an entry that tells exactly the choices that its run meets, once."""
    if entry not in system:
        raise UnknownName(entry)
    told = []
    while told is not None:
        script = Script(told)
        game = Game(system, script)
        game.play(entry)
        yield Pattern(entry, {path: choice for path, choice in game.chosen})
        told = script.following()
