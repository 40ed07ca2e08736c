"""A second reckoning of lines: requests, tries and entries are objects that remember at which tick they began."""


class Request:
    def __init__(self, left):
        self.left = left
        self.over = False
        self.begins = None     # the tick of its next try
        self.entry = None      # the entry of the try that runs


class Entry:
    def __init__(self, request, limit_at):
        self.request = request
        self.limit_at = limit_at
        self.gone = False
        self.entered = None

    def is_for_nobody(self):
        return self.request is None or self.request.entry is not self


class SlowLine:
    """plays a line from tick 0, or from a state, which then is that behind tick -1."""

    def __init__(self, line, burst=0, outage=0, state=None):
        self.line = line
        self.burst, self.outage = burst, outage
        self.tick = -1
        self.requests = []
        self.phase = line.gap - 1
        self.handlers = [[] for _ in line.stations]
        self.queues = [[] for _ in line.stations]
        if state is not None:
            self.read(state)

    def read(self, state):
        self.phase, requests, stations = state
        entries = []
        for left, waits, runs in requests:
            request = Request(left)
            self.requests.append(request)
            if waits is not None:
                request.begins = self.tick + waits
                entries.append(None)
            else:
                request.entry = Entry(request, self.tick + runs)
                entries.append(request.entry)
        for place, (inside, queue) in enumerate(stations):
            ticks = self.line.stations[place][1]
            for left, who in inside:
                entry = Entry(None, None) if who is None else entries[who]
                entry.entered = self.tick + left - ticks
                self.handlers[place].append(entry)
            self.queues[place] = [Entry(None, None) if who is None else entries[who] for who in queue]

    def step(self, is_down=None):
        """the next tick; tells the state behind it, and the three numbers."""
        self.tick += 1
        self.phase = (self.phase + 1) % self.line.gap
        down = self.tick < self.outage if is_down is None else is_down
        answered, given_up, refused = 0, 0, 0
        arriving = []
        for place in reversed(range(len(self.line.stations))):
            leaving = [entry for entry in self.handlers[place] if entry.entered + self.line.stations[place][1] == self.tick]
            self.handlers[place] = [entry for entry in self.handlers[place] if entry not in leaving]
            for entry in leaving:
                if place + 1 < len(self.line.stations):
                    arriving.append((place + 1, entry))
                elif not entry.is_for_nobody():
                    answered += 1
                    entry.request.over = True
        for request in self.requests:
            entry = request.entry
            if not request.over and entry is not None and entry.limit_at == self.tick:
                given_up += 1
                entry.gone = self.line.ending == 'stop'
                self.again(request)
        for place in range(len(self.line.stations)):
            self.handlers[place] = [entry for entry in self.handlers[place] if not entry.gone]
            self.queues[place] = [entry for entry in self.queues[place] if not entry.gone]
            while not down and self.queues[place] and len(self.handlers[place]) < self.line.stations[place][0]:
                self.enter(place, self.queues[place].pop(0))
        arriving = [(place, entry) for place, entry in arriving if not entry.gone]
        for request in self.requests:
            if not request.over and request.begins == self.tick:
                request.begins = None
                request.left -= 1
                arriving.append((0, self.fresh(request)))
        news = (self.burst if self.tick == 0 else 0) + (self.phase == 0)
        for _ in range(news):
            self.requests.append(Request(self.line.tries - 1))
            arriving.append((0, self.fresh(self.requests[-1])))
        for place, entry in arriving:
            handlers, _, places = self.line.stations[place]
            if not down and len(self.handlers[place]) < handlers:
                self.enter(place, entry)
            elif len(self.queues[place]) < places:
                self.queues[place].append(entry)
            elif not entry.is_for_nobody():
                refused += 1
                self.again(entry.request)
        return self.state(), answered, given_up, refused

    def fresh(self, request):
        request.entry = Entry(request, self.tick + self.line.limit)
        return request.entry

    def enter(self, place, entry):
        entry.entered = self.tick
        self.handlers[place].append(entry)

    def again(self, request):
        request.entry = None
        if request.left:
            request.begins = self.tick + self.line.pause
        else:
            request.over = True

    def state(self):
        alive = [request for request in self.requests if not request.over]
        rows = []
        for request in alive:
            waits = None if request.begins is None else request.begins - self.tick
            runs = None if request.entry is None else request.entry.limit_at - self.tick
            rows.append((request.left, waits, runs))

        def who(entry):
            return None if entry.is_for_nobody() else [request is entry.request for request in alive].index(True)
        stations = []
        for place, (_, ticks, _) in enumerate(self.line.stations):
            inside = tuple((entry.entered + ticks - self.tick, who(entry)) for entry in self.handlers[place])
            stations.append((inside, tuple(who(entry) for entry in self.queues[place])))
        return self.phase, tuple(rows), tuple(stations)
