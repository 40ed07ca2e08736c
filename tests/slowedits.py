"""A second reckoning of edits: all systems in a list, a place in it, and whole copies for trials."""

from mostcalls.printing import format_system


def lines_of(system, name):
    """the lines of a service's block in the system's text, two spaces less indented."""
    lines = format_system(system).split('\n')
    begin = lines.index('service ' + name)
    return tuple(line[2:] for line in lines[begin + 1:lines.index('end', begin)])


class SlowEdits:
    def __init__(self, system):
        self.systems = [system]
        self.place = 0
        self.marks = {}
        self.done = []
        self.trials = []

    @property
    def system(self):
        return self.systems[self.place]

    def length(self):
        return self.place

    def edit(self, system, deed):
        self.systems = self.systems[:self.place + 1] + [system]
        self.place += 1
        self.done.append(deed)

    def set_policy(self, policy):
        system = self.system.with_policy(policy)
        place = self.system.policies().index(policy.name)
        self.edit(system, ('policy', format_system(system).split('\n')[place]))

    def set_block(self, name, block):
        system = self.system.with_block(name, block)
        self.edit(system, ('block', name, lines_of(system, name)))

    def can_undo(self):
        return self.place > 0

    def can_redo(self):
        return self.place < len(self.systems) - 1

    def undo(self):
        self.place -= 1
        self.done.append(('undo',))

    def redo(self):
        self.place += 1
        self.done.append(('redo',))

    def mark(self, name):
        self.marks[name] = self.system
        self.done.append(('mark', name))

    def back(self, name):
        self.edit(self.marks[name], ('back', name))

    def copied(self):
        return list(self.systems), self.place, dict(self.marks), list(self.done)

    def begin_trial(self):
        self.trials.append([self.copied(), False])

    def keep(self):
        self.trials[-1][1] = True

    def end_trial(self):
        before, is_kept = self.trials.pop()
        if not is_kept:
            self.systems, self.place, self.marks, self.done = before
