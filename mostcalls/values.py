"""Values: nested tuples of integers, None and words, and their texts."""

from mostcalls.checks import LETTERS, is_integer
from mostcalls.texts import number_told

NOTHING = "-"


def is_value(value):
    """Whether any value is an integer, None, a word, or a tuple of such, nested."""
    left = [value]
    while len(left) > 0:
        inner = left.pop()
        if isinstance(inner, tuple):
            left += list(inner)
        elif inner is not None and not is_integer(inner) and not is_word(inner):
            return False
    return True


def is_word(value):
    """Whether any value is a text of lowercase letters, one at least."""
    return isinstance(value, str) and value != "" and all([sign in LETTERS for sign in value])


def write_value(value):
    """The text of a value."""
    signs = []
    # What is still to be written, the next at the end; no word is a bracket, so that a bracket stands for itself.
    left = [value]
    while len(left) > 0:
        inner = left.pop()
        if isinstance(inner, tuple):
            signs.append("(")
            left += list((")",) + inner[::-1])
        else:
            signs.append(NOTHING if inner is None else str(inner))
    return " ".join(signs)


def read_value(text):
    """A tuple with the value that any value writes, () if it writes none."""
    if not isinstance(text, str):
        return ()
    # The elements so far of all tuples that have begun and not ended, the innermost last; ahead of them what is read.
    found = [[]]
    for sign in text.split(" "):
        if sign == "(":
            found.append([])
            continue
        if sign == ")" and len(found) > 1:
            told = (tuple(found.pop()),)
        else:
            told = _told(sign)
        if len(told) == 0:
            return ()
        found[-1].append(told[0])
    return tuple(found[0]) if len(found) == 1 and len(found[0]) == 1 else ()


def _told(sign):
    """A tuple with what a sign tells that is no bracket, () if it tells nothing."""
    if sign == NOTHING:
        return (None,)
    if is_word(sign):
        return (sign,)
    is_negative = sign[:1] == "-"
    number = number_told(sign[1:] if is_negative else sign)
    if number is None or (is_negative and number == 0):
        return ()
    return (-number if is_negative else number,)
