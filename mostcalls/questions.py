"""Questions: texts that ask for greatest numbers, times and hopeless calls, also with other limits."""

from mostcalls.counts import Counts
from mostcalls.errors import InvalidQuestion, UnknownName
from mostcalls.texts import number_told
from mostcalls.times import answer_times, fail_times, hopeless, last_tick

# What stands at each place of a question, by its first word: a word as it is, or any one, which tells a name.
FORMS = {
    "calls": ("calls", None, "from", None),
    "work": ("work", None, "from", None),
    "nobody": ("nobody", None, "from", None),
    "answer": ("answer", None),
    "fail": ("fail", None),
    "last": ("last", None),
    "hopeless": ("hopeless",),
}


def ask(system, text):
    """The answer to a question."""
    if not isinstance(text, str):
        raise InvalidQuestion(None)
    words = text.split(" ")
    changes, begin = _leading_changes(words)
    _check_form(words, begin)
    for name, limit in changes:
        system = system.with_policy(system.policy(name).changed(limit=limit))
    return _answer(system, words[begin:])


def _leading_changes(words):
    """The tuples (name, limit) of all changes that a question begins with, and the place of the word behind them."""
    changes = []
    place = 0
    while place < len(words) and words[place] == "with":
        _check_words(words, place, ("with", None, "limit"))
        if len(words) == place + 3:
            raise InvalidQuestion(len(words))
        limit = number_told(words[place + 3])
        if limit is None:
            raise InvalidQuestion(place + 3)
        changes.append((words[place + 1], limit))
        place = place + 4
    return (changes, place)


def _check_form(words, begin):
    """Raises InvalidQuestion unless the words from a place on ask for something."""
    if begin == len(words) or words[begin] not in FORMS:
        raise InvalidQuestion(begin)
    form = FORMS[words[begin]]
    _check_words(words, begin, form)
    if len(words) > begin + len(form):
        raise InvalidQuestion(begin + len(form))


def _check_words(words, begin, form):
    """Raises InvalidQuestion unless words of this form stand at a place."""
    for place, told in enumerate(form, begin):
        if place == len(words) or words[place] == "" or (told is not None and words[place] != told):
            raise InvalidQuestion(place)


def _answer(system, words):
    """The answer to a question of a right form, without changes."""
    if words[0] in ("calls", "work", "nobody"):
        return _greatest(system, words[0], words[1], words[3])
    if words[0] == "answer":
        return _times_told(answer_times(system, words[1]))
    if words[0] == "fail":
        return _times_told(fail_times(system, words[1]))
    if words[0] == "last":
        return str(last_tick(system, words[1]))
    calls = [f"{service}.{place}" for service, place in hopeless(system)]
    return " ".join(calls) if len(calls) > 0 else "none"


def _greatest(system, kind, service, entry):
    """The greatest number of a service's calls, work, or work for nobody."""
    for name in (service, entry):
        if name not in system:
            raise UnknownName(name)
    return str(Counts(system, (kind, service)).greatest(entry))


def _times_told(ticks):
    """The text of the least and the longest time."""
    return "never" if ticks is None else f"{ticks[0]} to {ticks[1]}"
