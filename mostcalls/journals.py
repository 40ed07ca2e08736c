"""Journals: texts with a line for each deed, with numbers that show where a text was cut or changed."""

from mostcalls.edits import Edits
from mostcalls.errors import InvalidName, InvalidPart, InvalidPolicy, InvalidText, NothingToRedo, NothingToUndo
from mostcalls.errors import TooLong, UnknownName
from mostcalls.policies import Policy
from mostcalls.printing import block_lines, policy_line
from mostcalls.texts import Reader, line_words, policy_told

WHOLE = 9973


def write_journal(edits):
    """The journal of all deeds of Edits."""
    return "".join([_line(number, _told(deed)) + "\n" for number, deed in enumerate(edits.deeds())])


def recover(system, text):
    """Edits of a system with the deeds of the longest right beginning of a journal, and how many they are."""
    if not isinstance(text, str):
        raise InvalidText(None)
    edits = Edits(system)
    number = 0
    # Behind the last line feed no whole line stands.
    for line in text.split("\n")[:-1]:
        deed = line[len(f"{number} "):line.rfind(" #")]
        if _line(number, deed) != line or not _can_do(edits, deed):
            break
        number = number + 1
    return (edits, number)


def do_deed(edits, text):
    """Does what a text of a journal's deed tells; a text of another form is none, also if it would tell the same."""
    word, _, rest = text.partition(" ")
    if word == "policy":
        _set_policy(edits, text)
    elif word == "block":
        _set_block(edits, text)
    elif word == "mark" and text != word:
        edits.mark(rest)
    elif word == "back" and text != word:
        edits.back(rest)
    elif text == "undo":
        edits.undo()
    elif text == "redo":
        edits.redo()
    else:
        raise InvalidText(0)


def _line(number, deed):
    """The line of a deed, without its line feed."""
    ahead = f"{number} {deed} "
    check = sum([place * ord(sign) for place, sign in enumerate(ahead, 1)]) % WHOLE
    return f"{ahead}#{check:04d}"


def _told(deed):
    """The text of a deed."""
    if deed[0] == "policy":
        return deed[1]
    if deed[0] == "block":
        return _block_text(deed[1], list(deed[2]))
    return " ".join(deed)


def _block_text(name, lines):
    """The text of a deed that gives a service these lines of a block."""
    return f"block {name} " + ";".join([line.lstrip(" ") for line in lines])


def _can_do(edits, text):
    """Whether a deed could be done; if so, it is."""
    try:
        do_deed(edits, text)
    except (InvalidText, InvalidName, InvalidPolicy, InvalidPart, UnknownName, TooLong, NothingToUndo, NothingToRedo):
        return False
    return True


def _set_policy(edits, text):
    """Sets the policy of a line."""
    told = policy_told(line_words(text))
    if told is None:
        raise InvalidText(0)
    name, fields = told
    policy = Policy(name, **fields)
    edits.system.with_policy(policy)
    if policy_line(policy) != text:
        raise InvalidText(0)
    edits.set_policy(policy)


def _set_block(edits, text):
    """Sets the block of a service, by its name and the lines of the block."""
    _, _, rest = text.partition(" ")
    name, _, told = rest.partition(" ")
    block = _block_told(told.split(";") if told != "" else [])
    edits.system.with_block(name, block)
    if _block_text(name, block_lines(block, 0)) != text:
        raise InvalidText(0)
    edits.set_block(name, block)


def _block_told(lines):
    """The block of these lines."""
    reader = Reader()
    reader.takes(["service", ""])
    for number, line in enumerate(lines):
        if not reader.takes(line_words(line)) or not reader.is_inside():
            raise InvalidText(number)
    reader.takes(["end"])
    if reader.is_inside():
        raise InvalidText(len(lines))
    return reader.told_services[0][1]
