"""Moments: what happens on a line at one tick."""


class Moment:
    """A tick of a line: what is left of the requests, and who is where.

    Requests are numbered from 0 here, those that are over keep their numbers until the state is told; None stands for
    one that is over, otherwise it is a tuple (left, waits, runs). Who is a number, or None for nobody.
    """

    def __init__(self, line, state):
        self.line = line
        self.phase = (state[0] + 1) % line.gap
        self.requests = list(state[1])
        self.inside = [list(inside) for inside, _ in state[2]]
        self.queues = [list(queue) for _, queue in state[2]]
        # Those that come to each station at this tick.
        self.coming = [[] for _ in state[2]]
        self.many_answered = 0
        self.many_given_up = 0
        self.many_refused = 0

    def happen(self, burst, is_down):
        """Does everything that happens at the tick; tells the state behind it, and the numbers of tries."""
        self._leave()
        beginning = self._count_down()
        if not is_down:
            self._take()
        self._come(beginning, burst, is_down)
        return (self._state(), self.many_answered, self.many_given_up, self.many_refused)

    def _leave(self):
        """Entries that were in a handler for long enough leave it."""
        last = len(self.inside) - 1
        for place in range(last, -1, -1):
            stays = []
            for left, who in list(self.inside[place]):
                if left > 1:
                    stays.append((left - 1, who))
                elif place < last:
                    self.coming[place + 1].append(who)
                elif who is not None:
                    self.many_answered += 1
                    self.requests[who] = None
            self.inside[place] = stays

    def _count_down(self):
        """Tries that have reached their limit are given up; tells whose next try begins now."""
        beginning = []
        for who, request in enumerate(list(self.requests)):
            if request is None:
                continue
            left, waits, runs = request
            if waits == 1:
                beginning.append(who)
            elif waits is not None:
                self.requests[who] = (left, waits - 1, None)
            elif runs > 1:
                self.requests[who] = (left, None, runs - 1)
            else:
                self.many_given_up += 1
                self._forget(who)
                self._fail(who)
        return beginning

    def _forget(self, who):
        """The entry of a try that is given up leaves the line, or stays for nobody."""
        for place in range(len(self.inside)):
            ticks = [left for left, other in self.inside[place] if self._stays(other, who)]
            entries = self._without(who, [other for _, other in self.inside[place]])
            self.inside[place] = list(zip(ticks, entries))
            self.queues[place] = self._without(who, self.queues[place])
            self.coming[place] = self._without(who, self.coming[place])

    def _stays(self, other, who):
        """Whether an entry stays on the line as the try of this request is given up."""
        return other != who or self.line.ending == "go"

    def _without(self, who, others):
        """Those who stay of some entries, nobody in place of this one."""
        return [None if other == who else other for other in others if self._stays(other, who)]

    def _fail(self, who):
        """A try has failed, or was given up: the next one comes later, or the request has failed."""
        left = self.requests[who][0]
        self.requests[who] = (left, self.line.pause, None) if left > 0 else None

    def _take(self):
        """Free handlers take entries from their queues."""
        for place, (handlers, ticks, _) in enumerate(self.line.stations):
            many = max(0, handlers - len(self.inside[place]))
            taken = self.queues[place][:many]
            self.inside[place] = self.inside[place] + [(ticks, who) for who in taken]
            self.queues[place] = self.queues[place][many:]

    def _come(self, beginning, burst, is_down):
        """Entries come: from other stations, of further tries, of a burst, and of a new request."""
        for place in range(len(self.coming) - 1, 0, -1):
            for who in self.coming[place]:
                self._enter(place, who, is_down)
        for who in beginning:
            self.requests[who] = (self.requests[who][0] - 1, None, self.line.limit)
            self._enter(0, who, is_down)
        for _ in range(burst + (1 if self.phase == 0 else 0)):
            self.requests.append((self.line.tries - 1, None, self.line.limit))
            self._enter(0, len(self.requests) - 1, is_down)

    def _enter(self, place, who, is_down):
        """An entry comes to a station: into a handler, into the queue, or it is refused."""
        handlers, ticks, places = self.line.stations[place]
        if not is_down and len(self.inside[place]) < handlers:
            self.inside[place].append((ticks, who))
        elif len(self.queues[place]) < places:
            self.queues[place].append(who)
        elif who is not None:
            self.many_refused += 1
            self._fail(who)

    def _state(self):
        """The state behind the tick."""
        going = [who for who, request in enumerate(self.requests) if request is not None]
        places = {who: place for place, who in enumerate(going)}
        places[None] = None
        stations = []
        for inside, queue in zip(self.inside, self.queues):
            rows = [(left, places[who]) for left, who in inside]
            stations.append((tuple(rows), tuple([places[who] for who in queue])))
        return (self.phase, tuple([self.requests[who] for who in going]), tuple(stations))
