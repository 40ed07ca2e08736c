"""Texts: reading a system from its text."""

from mostcalls.errors import InvalidText
from mostcalls.policies import Policy
from mostcalls.systems import System

DIGITS = "0123456789"
MOST_DIGITS = 30


def parse_system(text):
    """The system of a text as printing.format_system writes it."""
    if not isinstance(text, str):
        raise InvalidText(None)
    lines = text.split("\n")
    reader = Reader()
    for number, line in enumerate(lines):
        if not reader.takes(line_words(line)):
            raise InvalidText(number)
    if reader.is_inside():
        raise InvalidText(len(lines))
    policies = [Policy(name, **fields) for name, fields in reader.told_policies]
    return System(policies, reader.told_services)


def line_words(line):
    """The words of a line, [] if it cannot stand anywhere; a line can be indented."""
    words = line.lstrip(" ").split(" ")
    return [] if "" in words else words


def number_told(word):
    """The integer that a word tells, or None."""
    if len(word) > MOST_DIGITS or not all([sign in DIGITS for sign in word]):
        return None
    if word == "" or (word[0] == "0" and word != "0"):
        return None
    return int(word)


def policy_told(words):
    """A tuple (name, fields) that the words of a line tell of a policy, or None."""
    if len(words) < 7 or [words[0], words[2], words[4]] != ["policy", "limit", "tries"]:
        return None
    fields = {"limit": number_told(words[3]), "tries": number_told(words[5])}
    rest = words[6:]
    if rest[0] == "pauses":
        pauses = _leading_numbers(rest[1:])
        if len(pauses) == 0:
            return None
        fields["pauses"] = tuple(pauses)
        rest = rest[1 + len(pauses):]
    elif rest[0] == "early":
        fields["early"] = number_told(rest[1]) if len(rest) > 1 else None
        rest = rest[2:]
    if rest[:1] == ["lossy"]:
        fields["lossy"] = True
        rest = rest[1:]
    fields["ending"] = _ending_told(rest)
    if any([fields[word] is None for word in fields]):
        return None
    return (words[1], fields)


def _leading_numbers(words):
    """The integers that stand ahead of the first word that is none."""
    numbers = []
    for word in words:
        number = number_told(word)
        if number is None:
            break
        numbers.append(number)
    return numbers


def _ending_told(words):
    """The ending that words tell, or None."""
    if words in (["go"], ["deadline"]):
        return (words[0],)
    if len(words) == 2 and words[0] == "stop":
        delay = number_told(words[1])
        return None if delay is None else ("stop", delay)
    return None


def leaf_told(words):
    """The part without parts inside that the words of a line tell, or None."""
    if words == ["risk"]:
        return ("risk",)
    if len(words) == 3 and words[0] in ("call", "want"):
        return (words[0], words[1], words[2])
    if len(words) == 3 and words[0] == "run":
        low = number_told(words[1])
        high = number_told(words[2])
        return None if low is None or high is None else ("run", low, high)
    return None


class Block:
    """A block that is being read: what it is of, the parts so far, and its first block if it is of a `both`."""

    def __init__(self, kind, service=None):
        self.kind = kind
        self.service = service
        self.parts = []
        self.first_parts = None


class Reader:
    """Takes the lines of a text one by one, by their words."""

    def __init__(self):
        self.told_policies = []
        self.told_services = []
        self._around = []

    def is_inside(self):
        """Whether a service has begun that has not ended."""
        return len(self._around) > 0

    def takes(self, words):
        """Whether a line with these words can stand here; if so, it is read."""
        if self.is_inside():
            return self._takes_inside(words)
        if len(words) == 2 and words[0] == "service":
            self._around.append(Block("service", words[1]))
            return True
        policy = policy_told(words)
        if policy is None or len(self.told_services) > 0:
            return False
        self.told_policies.append(policy)
        return True

    def _takes_inside(self, words):
        """Whether a line with these words can stand within a service; if so, it is read."""
        block = self._around[-1]
        part = leaf_told(words)
        if part is not None:
            block.parts.append(part)
        elif words in (["maybe"], ["both"]):
            self._around.append(Block(words[0]))
        elif words == ["beside"] and block.kind == "both" and block.first_parts is None:
            block.first_parts = tuple(block.parts)
            block.parts = []
        elif words == ["end"] and (block.kind != "both" or block.first_parts is not None):
            self._close()
        else:
            return False
        return True

    def _close(self):
        """Ends the innermost block."""
        block = self._around.pop()
        parts = tuple(block.parts)
        if block.kind == "service":
            self.told_services.append((block.service, parts))
        elif block.kind == "maybe":
            self._around[-1].parts.append(("maybe", parts))
        else:
            self._around[-1].parts.append(("both", block.first_parts, parts))
