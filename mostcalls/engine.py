"""The engine: plays one request, tick by tick, with the choices that a source picks.

All that is under way tells in `due` the next tick at which something happens in it, and does in `step`
everything that happens at that tick. Only behind that it is halted or given up, as whoever is stopped at a
tick still does everything of this tick. `over` is the tick at which it ended, failed or was halted.
"""


class Game:
    """One request: its handler runs, and what became of them."""

    def __init__(self, system, source):
        self.world = system
        self.source = source
        self.visits = []
        self.labor = []
        self.chosen = []
        self.fault_count = 0
        # Handler runs whose tries were given up; nobody waits for them, so they go on one by one.
        self.loose = []

    def play(self, entry):
        """Plays a request of this entry to the end of its last handler run."""
        self._finish(Visit(self, None, (), entry, 0, None))
        while len(self.loose) > 0:
            self._finish(self.loose.pop())

    def choose(self, path, low, high, is_fault):
        """The choice for a path that is met, from low to high; above low it can be a fault."""
        choice = self.source.pick(path, low, high)
        self.chosen.append((path, choice))
        if is_fault and choice > low:
            self.fault_count += 1
        return choice

    def _finish(self, visit):
        """Plays a handler run to its end."""
        while visit.over is None:
            visit.step(visit.due)


class Visit:
    """A handler run."""

    def __init__(self, game, caller, path, service, tick, deadline):
        self.caller = caller
        self.path = path
        self.service = service
        self.began = tick
        self.deadline = deadline
        self.halts_at = deadline
        self.given = None
        self.due = None
        self.over = None
        self.outcome = None
        game.visits.append(self)
        self.work = BlockRun(game, self, game.world[service], path, tick)
        self._settle(tick)

    def step(self, tick):
        """Does everything that happens at its due tick."""
        if self.work.due == tick:
            self.work.step(tick)
        self._settle(tick)

    def give_up(self, game, tick, ending):
        """Nobody waits for it from this tick on; everything of this tick is done."""
        self.given = tick
        if self.over is not None:
            return
        if ending[0] == "stop":
            self.halts_at = tick + ending[1]
        self._settle(tick)
        if self.over is None:
            game.loose.append(self)

    def _settle(self, tick):
        """Behind everything of a tick: tells whether it is over, or what comes next."""
        if self.work.over is not None:
            self._end(tick, "failed" if self.work.failed else "answered")
        elif self.halts_at == tick:
            self.work.halt(tick)
            self._end(tick, "stopped")
        else:
            self.due = earliest([self.work.due, self.halts_at])

    def _end(self, tick, outcome):
        self.outcome = outcome
        self.over = tick
        self.due = None


class BlockRun:
    """A block that is done, part by part."""

    def __init__(self, game, visit, block, path, tick):
        self.game = game
        self.visit = visit
        self.block = block
        self.path = path
        self.at = 0
        self.child = None
        self.due = None
        self.over = None
        self.failed = False
        self._go_on(tick)

    def step(self, tick):
        """Does everything that happens at its due tick."""
        self.child.step(tick)
        self._go_on(tick)

    def halt(self, tick):
        """Stops it behind everything of this tick."""
        self.child.halt(tick)
        self._end(tick, False)

    def _go_on(self, tick):
        """Does parts until one takes time or fails, or none is left."""
        while self.over is None:
            if self.child is not None and self.child.over is None:
                self.due = self.child.due
                return
            if self.child is not None:
                self._leave(tick)
            elif self.at == len(self.block):
                self._end(tick, False)
            else:
                self._begin_part(tick)

    def _begin_part(self, tick):
        """Begins the next part; one that takes no time and has no blocks is done at once."""
        part = self.block[self.at]
        path = self.path + (self.at,)
        if part[0] == "risk":
            self.at += 1
            if self.game.choose(path, 0, 1, True) == 1:
                self._end(tick, True)
        elif part[0] == "maybe" and self.game.choose(path, 0, 1, False) == 0:
            self.at += 1
        else:
            self.child = begun(self.game, self.visit, part, path, tick)

    def _leave(self, tick):
        """Goes on behind a part that is over, or fails with it."""
        if self.child.failed and self.block[self.at][0] != "want":
            self._end(tick, True)
        self.child = None
        self.at += 1

    def _end(self, tick, failed):
        self.failed = failed
        self.over = tick
        self.due = None


def begun(game, visit, part, path, tick):
    """What is under way from the beginning of a part; of a `maybe`, its block."""
    if part[0] == "run":
        return WorkRun(game, visit, part, path, tick)
    if part[0] == "maybe":
        return BlockRun(game, visit, part[1], path, tick)
    if part[0] == "both":
        return BothRun(game, visit, part, path, tick)
    if game.world.policy(part[2]).early is None:
        return PausedCall(game, visit, part, path, tick)
    return EarlyCall(game, visit, part, path, tick)


class WorkRun:
    """A part `run`."""

    def __init__(self, game, visit, part, path, tick):
        self.game = game
        self.visit = visit
        self.began = tick
        self.due = tick + game.choose(path, part[1], part[2], True)
        self.over = None
        self.failed = False
        if self.due == tick:
            self.step(tick)

    def step(self, tick):
        """Ends it."""
        self.game.labor.append((self.visit.path, self.visit.service, self.began, tick))
        self.over = tick
        self.due = None

    def halt(self, tick):
        """Stops it behind everything of this tick."""
        self.step(tick)


class BothRun:
    """A part `both`."""

    def __init__(self, game, visit, part, path, tick):
        self.due = None
        self.over = None
        self.failed = False
        first = BlockRun(game, visit, part[1], path + (0,), tick)
        second = BlockRun(game, visit, part[2], path + (1,), tick)
        self.sides = (first, second)
        self._settle(tick)

    def step(self, tick):
        """Does everything that happens at its due tick."""
        for side in self.sides:
            if side.due == tick:
                side.step(tick)
        self._settle(tick)

    def halt(self, tick):
        """Stops it behind everything of this tick."""
        for side in self.sides:
            if side.over is None:
                side.halt(tick)
        self.over = tick
        self.due = None

    def _settle(self, tick):
        """Behind everything of a tick: tells whether it is over, or what comes next."""
        if any([side.failed for side in self.sides]):
            self.failed = True
            self.halt(tick)
        elif all([side.over is not None for side in self.sides]):
            self.over = tick
            self.due = None
        else:
            self.due = earliest([side.due for side in self.sides])


class TryRun:
    """A try: what its caller sees of a handler run."""

    def __init__(self, game, caller, callee, policy, path, tick):
        self.game = game
        self.terms = policy
        self.ends_by = tick + policy.limit
        self.answered = False
        self.due = None
        self.over = None
        self.lost = policy.lossy and game.choose(path, 0, 1, True) == 1
        deadline = None
        if policy.ending == ("deadline",):
            deadline = earliest([self.ends_by, caller.deadline])
        self.visit = Visit(game, caller, path, callee, tick, deadline)
        self._settle(tick)

    def step(self, tick):
        """Does everything that happens at its due tick."""
        if self.visit.due == tick:
            self.visit.step(tick)
        self._settle(tick)

    def halt(self, tick):
        """Gives it up behind everything of this tick."""
        self.visit.give_up(self.game, tick, self.terms.ending)
        self._resolve(tick)

    def _settle(self, tick):
        """Behind everything of a tick: tells whether it is over, or what comes next."""
        if self.visit.outcome in ("answered", "failed") and not self.lost:
            self.answered = self.visit.outcome == "answered"
            self._resolve(tick)
        elif self.ends_by == tick:
            self.halt(tick)
        else:
            self.due = earliest([self.visit.due, self.ends_by])

    def _resolve(self, tick):
        self.over = tick
        self.due = None


class CallRun:
    """A call: the tries that it has begun. Those below tell when further ones begin."""

    def __init__(self, game, visit, part, path):
        self.game = game
        self.visit = visit
        self.callee = part[1]
        self.terms = game.world.policy(part[2])
        self.path = path
        self.attempts = []
        self.due = None
        self.over = None
        self.failed = False

    def halt(self, tick):
        """Gives up what is under way, behind everything of this tick."""
        for attempt in list(self.attempts):
            if attempt.over is None:
                attempt.halt(tick)
        self.over = tick
        self.due = None

    def begin_try(self, tick):
        """Begins the next try."""
        path = self.path + (len(self.attempts),)
        self.attempts.append(TryRun(self.game, self.visit, self.callee, self.terms, path, tick))


class PausedCall(CallRun):
    """A call whose further tries begin behind a pause."""

    def __init__(self, game, visit, part, path, tick):
        super().__init__(game, visit, part, path)
        self.begin_try(tick)
        self._go_on(tick)

    def step(self, tick):
        """Does everything that happens at its due tick."""
        latest = self.attempts[-1]
        if latest.over is None:
            latest.step(tick)
        else:
            self.begin_try(tick)
        self._go_on(tick)

    def _go_on(self, tick):
        """Begins tries until one takes time or a pause does, or the call is over."""
        while self.over is None:
            latest = self.attempts[-1]
            many = len(self.attempts)
            if latest.over is None:
                self.due = latest.due
                return
            if latest.answered or many == self.terms.tries:
                self.failed = not latest.answered
                self.halt(tick)
            elif self.terms.pauses[many - 1] > 0:
                self.due = tick + self.terms.pauses[many - 1]
                return
            else:
                self.begin_try(tick)


class EarlyCall(CallRun):
    """A call whose further tries do not wait for the end of the one before."""

    def __init__(self, game, visit, part, path, tick):
        super().__init__(game, visit, part, path)
        self.next_begin = tick
        self.step(tick)

    def step(self, tick):
        """Does everything that happens at its due tick; a try begins although another is answered at it."""
        for attempt in list(self.attempts):
            if attempt.due == tick:
                attempt.step(tick)
        if self.next_begin == tick:
            self.begin_try(tick)
            is_last = len(self.attempts) == self.terms.tries
            self.next_begin = None if is_last else tick + self.terms.early
        self._settle(tick)

    def _settle(self, tick):
        """Behind everything of a tick: tells whether it is over, or what comes next."""
        is_answered = any([attempt.answered for attempt in self.attempts])
        is_left = self.next_begin is not None or any([attempt.over is None for attempt in self.attempts])
        if is_answered or not is_left:
            self.failed = not is_answered
            self.halt(tick)
        else:
            self.due = earliest([attempt.due for attempt in self.attempts] + [self.next_begin])


def earliest(ticks):
    """The least of the ticks that are not None, or None."""
    return min([tick for tick in ticks if tick is not None], default=None)
