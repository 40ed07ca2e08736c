"""Edits: a system and what was done to it, with undo, redo, marks, and trials that can be taken back."""

from mostcalls.checks import is_name
from mostcalls.errors import InvalidName, NoTrial, NothingToRedo, NothingToUndo, UnknownName
from mostcalls.printing import block_lines, policy_line


class State:
    """All that there is at one time; a state is never changed, each deed makes another one."""

    def __init__(self, world, undoable, redoable, marks, done):
        self.world = world
        # The systems to which undo and redo lead, the next one at the end.
        self.undoable = undoable
        self.redoable = redoable
        self.marks = marks
        self.done = done

    def edited(self, world, deed):
        """The state behind an edit that makes a system the present one."""
        return State(world, self.undoable + [self.world], [], self.marks, self.done + [deed])

    def undone(self):
        """The state behind an undo."""
        redoable = self.redoable + [self.world]
        return State(self.undoable[-1], self.undoable[:-1], redoable, self.marks, self.done + [("undo",)])

    def redone(self):
        """The state behind a redo."""
        undoable = self.undoable + [self.world]
        return State(self.redoable[-1], undoable, self.redoable[:-1], self.marks, self.done + [("redo",)])

    def marked(self, name):
        """The state in which a name is that of the present system."""
        marks = {**self.marks, name: self.world}
        return State(self.world, self.undoable, self.redoable, marks, self.done + [("mark", name)])


class Trial:
    """A trial: the state ahead of it, and the trial around it, or None."""

    def __init__(self, ahead, around):
        self.ahead = ahead
        self.around = around
        self.is_kept = None
        self.is_over = None


class History:
    """The present state, and the innermost trial, or None."""

    def __init__(self, system):
        self.present = State(system, [], [], {}, [])
        self.innermost = None

    def begin_trial(self):
        """Begins a trial within those that are open."""
        self.innermost = Trial(self.present, self.innermost)

    def end_trial(self):
        """Ends the innermost trial; unless it is kept, what was done in it is taken back."""
        ended = self.innermost
        if ended.is_kept is None:
            self.present = ended.ahead
        ended.is_over = True
        self.innermost = ended.around


class TrialBlock:
    """A context manager: a trial begins with the block and ends with it, and with it those that were begun in it."""

    def __init__(self, edits, history):
        self.edits = edits
        self.history = history
        self.begun = None

    def __enter__(self):
        self.history.begin_trial()
        self.begun = self.history.innermost
        return self.edits

    def __exit__(self, kind, value, trace):
        if self.begun.is_over is None:
            if self.begun.is_kept is None:
                self.history.present = self.begun.ahead
            self.history.innermost = self.begun.around
            self.begun.is_over = True


class Edits:
    """A system that is edited."""

    def __init__(self, system):
        self._history = History(system)

    @property
    def system(self):
        """The present system."""
        return self._history.present.world

    def set_policy(self, policy):
        """Puts a policy in place of the one of its name."""
        changed = self._history.present.world.with_policy(policy)
        self._do(changed, ("policy", policy_line(policy)))

    def set_block(self, name, block):
        """Gives a service another block."""
        changed = self._history.present.world.with_block(name, block)
        self._do(changed, ("block", name, tuple(block_lines(block, 0))))

    def undo(self):
        """Takes back the last edit that is not taken back."""
        if len(self._history.present.undoable) == 0:
            raise NothingToUndo()
        self._history.present = self._history.present.undone()

    def redo(self):
        """Takes back the last undo."""
        if len(self._history.present.redoable) == 0:
            raise NothingToRedo()
        self._history.present = self._history.present.redone()

    def mark(self, name):
        """Gives the present system a name."""
        if not is_name(name):
            raise InvalidName(name)
        self._history.present = self._history.present.marked(name)

    def back(self, name):
        """Makes the system of a name the present one."""
        marks = self._history.present.marks
        if not isinstance(name, str) or name not in marks:
            raise UnknownName(name)
        self._do(marks[name], ("back", name))

    def deeds(self):
        """All deeds that were done, in order."""
        return list(self._history.present.done)

    def begin_trial(self):
        """Begins a trial."""
        self._history.begin_trial()

    def end_trial(self):
        """Ends the innermost trial; unless it is kept, what was done in it is taken back."""
        if self._history.innermost is None:
            raise NoTrial()
        self._history.end_trial()

    def keep(self):
        """Lets what is done in the innermost trial stay when it ends."""
        if self._history.innermost is None:
            raise NoTrial()
        self._history.innermost.is_kept = True

    def trial(self):
        """A context manager that begins a trial with its block and ends it with it."""
        return TrialBlock(self, self._history)

    def within_trial(self, call):
        """What a function returns that is called in a trial."""
        with self.trial():
            return call()

    def __len__(self):
        return len(self._history.present.undoable)

    def _do(self, world, deed):
        """Does an edit."""
        self._history.present = self._history.present.edited(world, deed)
