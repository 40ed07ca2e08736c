"""The console: a system that is edited and asked by commands, which are texts."""

from mostcalls.edits import Edits
from mostcalls.errors import InvalidCommand, NoSystem
from mostcalls.journals import do_deed, write_journal
from mostcalls.printing import format_system
from mostcalls.questions import ask
from mostcalls.texts import parse_system

# The words of commands, and whether something stands behind them.
COMMANDS = {
    "system": True, "show": False, "policy": True, "block": True, "undo": False, "redo": False,
    "mark": True, "back": True, "ask": True, "journal": False,
}
DONE = "ok"


class Console:
    """A console; it has no system at first."""

    def __init__(self):
        self._edits = None

    def execute(self, command):
        """Does what a command tells, and returns its answer."""
        if not isinstance(command, str):
            raise InvalidCommand(None)
        word, space, rest = command.partition(" ")
        if word not in COMMANDS or COMMANDS[word] != (space == " "):
            raise InvalidCommand(word)
        if word == "system":
            self._edits = Edits(parse_system(rest.replace(";", "\n")))
            return DONE
        if self._edits is None:
            raise NoSystem()
        if word == "show":
            return ";".join([line.lstrip(" ") for line in format_system(self._edits.system).split("\n")])
        if word == "ask":
            return ask(self._edits.system, rest)
        if word == "journal":
            text = write_journal(self._edits)
            return text[:-1] if text != "" else "-"
        do_deed(self._edits, command)
        return DONE
