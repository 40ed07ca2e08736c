"""Shelves: dossiers of a system that are kept, all of them right, and their texts."""

from mostcalls.dossiers import check_dossier, dossier
from mostcalls.errors import InvalidServices, InvalidText, UnknownName
from mostcalls.systems import System
from mostcalls.values import read_value, write_value


class Shelf:
    """The dossiers of a system, at most one for each entry."""

    def __init__(self, system):
        if not isinstance(system, System):
            raise InvalidServices(None)
        self._system = system
        # For each entry that has one, a tuple of the dossier and its numbers.
        self._kept = {}

    @property
    def system(self):
        """The system."""
        return self._system

    def put(self, value):
        """Keeps any value that is a right dossier, in place of one of the same entry; tells whether it is."""
        if not isinstance(value, tuple) or len(value) == 0 or value[0] not in self._system:
            return False
        told = check_dossier(self._system, value[0], value)
        if told is None:
            return False
        self._kept[value[0]] = (value, told)
        return True

    def entries(self):
        """The entries that have a dossier, in the order of the system."""
        return [name for name in self._system if name in self._kept]

    def dossier(self, entry):
        """The dossier of an entry; it is made if there is none."""
        return self._row(entry)[0]

    def numbers(self, entry):
        """The numbers of the dossier of an entry, by measures; it is made if there is none."""
        told = self._row(entry)[1]
        return {measure: told[measure] for measure in told}

    def text(self):
        """A line for each dossier, in the order of the system."""
        return "".join([write_value(self._kept[entry][0]) + "\n" for entry in self.entries()])

    def carried(self, system):
        """A shelf of another system with the dossiers that are right there."""
        other = Shelf(system)
        for entry in self.entries():
            other.put(self._kept[entry][0])
        return other

    def __len__(self):
        return len(self._kept)

    def _row(self, entry):
        """The dossier of an entry and its numbers."""
        if entry not in self._system:
            raise UnknownName(entry)
        if entry not in self._kept:
            self.put(dossier(self._system, entry))
        return self._kept[entry]


def read_shelf(system, text):
    """A shelf of all lines of a text that tell right dossiers, and how many other lines there are."""
    shelf = Shelf(system)
    if not isinstance(text, str):
        raise InvalidText(None)
    lines = text.split("\n")
    if lines[-1] == "":
        lines.pop()
    number = 0
    for line in lines:
        told = read_value(line)
        if len(told) == 0 or not shelf.put(told[0]):
            number = number + 1
    return (shelf, number)
