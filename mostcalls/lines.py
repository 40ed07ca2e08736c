"""Lines: stations with queues, one behind the other, and what becomes of bursts and outages."""

from mostcalls.checks import is_between
from mostcalls.errors import InvalidLine, InvalidNumber, InvalidState, LimitExceeded
from mostcalls.moments import Moment

MOST_BURST = 30
MOST_OUTAGE = 60
MOST_TICKS = 5000
MOST_GAP = 20
# How many ticks of a burst are looked at.
MOST_LOOKED_AT = 300


class Line:
    """Stations one behind the other, a request every so many ticks, and how its caller tries."""

    def __init__(self, stations, *, gap, limit, tries=1, pause=1, ending="go"):
        field = _wrong_field(stations, gap, limit, tries, pause, ending)
        if field is not None:
            raise InvalidLine(field)
        self._stations = stations
        self._gap = gap
        self._limit = limit
        self._tries = tries
        self._pause = pause
        self._ending = ending

    @property
    def stations(self):
        """The tuples (handlers, ticks, places)."""
        return self._stations

    @property
    def gap(self):
        """The ticks from one request to the next one."""
        return self._gap

    @property
    def limit(self):
        """How many ticks a caller waits for a try."""
        return self._limit

    @property
    def tries(self):
        """How many tries a caller makes at most."""
        return self._tries

    @property
    def pause(self):
        """The ticks ahead of each further try."""
        return self._pause

    @property
    def ending(self):
        """What becomes of the entry of a try that is given up."""
        return self._ending

    def first(self, burst=0, outage=0):
        """The state behind tick 0."""
        _check_numbers(burst, outage)
        return self._begun(burst, outage)[0]

    def next(self, state, is_down=False):
        """The state behind the next tick, and how many tries were answered, given up and refused at it."""
        if not self._is_state(state):
            raise InvalidState(state)
        if not isinstance(is_down, bool):
            raise InvalidNumber(is_down)
        return self._behind(state, is_down)

    def run(self, burst, ticks, outage=0):
        """Yields what `next` tells for so many ticks, from tick 0 on."""
        if not is_between(burst, 0, MOST_BURST):
            raise InvalidNumber(burst)
        if not is_between(ticks, 0, MOST_TICKS):
            raise InvalidNumber(ticks)
        if not is_between(outage, 0, MOST_OUTAGE):
            raise InvalidNumber(outage)
        told = None
        for tick in range(ticks):
            told = self._begun(burst, outage) if told is None else self._behind(told[0], tick < outage)
            yield told

    def __eq__(self, other):
        return isinstance(other, Line) and self._fields() == other._fields()

    def _fields(self):
        """All six fields, by which lines are equal."""
        return (self._stations, self._gap, self._limit, self._tries, self._pause, self._ending)

    def _begun(self, burst, outage):
        """What tick 0 tells."""
        nothing = (self._gap - 1, (), tuple([((), ()) for _ in self._stations]))
        return Moment(self, nothing).happen(burst, outage > 0)

    def _behind(self, state, is_down):
        """What the tick behind a state tells."""
        return Moment(self, state).happen(0, is_down)

    def _is_state(self, value):
        """Whether any value has the form of a state."""
        if not isinstance(value, tuple) or len(value) != 3 or not is_between(value[0], 0, self._gap - 1):
            return False
        _, requests, stations = value
        if not isinstance(requests, tuple) or not all([self._is_request(request) for request in requests]):
            return False
        if not isinstance(stations, tuple) or len(stations) != len(self._stations):
            return False
        most = len(requests) - 1
        if not all([_is_filled(station, told, most) for station, told in zip(self._stations, stations)]):
            return False
        trying = [who for who, request in enumerate(requests) if request[2] is not None]
        return trying == sorted([who for who in _all_who(stations) if who is not None])

    def _is_request(self, value):
        """Whether any value tells of a request: its tries to come, and until when it waits, or a try runs."""
        if not isinstance(value, tuple) or len(value) != 3 or not is_between(value[0], 0, self._tries - 1):
            return False
        left, waits, runs = value
        if waits is None:
            return is_between(runs, 1, self._limit)
        return runs is None and left > 0 and is_between(waits, 1, self._pause)


def fate(line, burst, outage=0):
    """("out", tick) if a burst with an outage dies out, ("stays", tick, length) if its states come back."""
    _check_numbers(burst, outage)
    both = [line.first(burst, outage), line.first()]
    seen = {}
    for tick in range(MOST_LOOKED_AT):
        if tick > 0:
            both = [line.next(both[0], tick < outage)[0], line.next(both[1])[0]]
        if tick >= outage:
            if both[0] == both[1]:
                return ("out", tick)
            key = (both[0], both[1])
            if key in seen:
                return ("stays", seen[key], tick - seen[key])
            seen[key] = tick
    raise LimitExceeded(MOST_LOOKED_AT)


def feeds(line, burst, outage=0):
    """Whether a burst with an outage stays, and a try is given up or refused in a round of its states."""
    told = fate(line, burst, outage)
    if told[0] == "out":
        return False
    _, tick, length = told
    state = line.first(burst, outage)
    harmed = 0
    for at in range(1, tick + length + 1):
        state, _, given_up, refused = line.next(state, at < outage)
        if at > tick:
            harmed = harmed + given_up + refused
    return harmed > 0


def least_burst(line, most):
    """The least burst from 1 to most that stays, or None."""
    if not is_between(most, 0, MOST_BURST):
        raise InvalidNumber(most)
    return _first_that_stays([(burst, line, burst, 0) for burst in range(1, most + 1)])


def least_outage(line, most):
    """The least outage from 1 to most that stays, or None."""
    if not is_between(most, 0, MOST_OUTAGE):
        raise InvalidNumber(most)
    return _first_that_stays([(outage, line, 0, outage) for outage in range(1, most + 1)])


def greatest_gap(line, burst):
    """The greatest gap at which a burst stays, or None."""
    _check_numbers(burst, 0)
    gaps = range(MOST_GAP, 0, -1)
    return _first_that_stays([(gap, _with_gap(line, gap), burst, 0) for gap in gaps])


def _first_that_stays(rows):
    """The number of the first row (number, line, burst, outage) whose burst stays, or None."""
    for number, line, burst, outage in rows:
        if fate(line, burst, outage)[0] == "stays":
            return number
    return None


def _with_gap(line, gap):
    """A line with another gap."""
    return Line(line.stations, gap=gap, limit=line.limit, tries=line.tries, pause=line.pause, ending=line.ending)


def _check_numbers(burst, outage):
    """Raises InvalidNumber unless they are a burst and an outage."""
    if not is_between(burst, 0, MOST_BURST):
        raise InvalidNumber(burst)
    if not is_between(outage, 0, MOST_OUTAGE):
        raise InvalidNumber(outage)


def _wrong_field(stations, gap, limit, tries, pause, ending):
    """The first field that is wrong, or None."""
    if not _are_stations(stations):
        return "stations"
    for field, value, most in (("gap", gap, MOST_GAP), ("limit", limit, 30), ("tries", tries, 3), ("pause", pause, 10)):
        if not is_between(value, 1, most):
            return field
    if not isinstance(ending, str) or ending not in ("go", "stop"):
        return "ending"
    return None


def _are_stations(value):
    """Whether any value is a tuple of one to three stations."""
    return isinstance(value, tuple) and 1 <= len(value) <= 3 and all([_is_station(row) for row in value])


def _is_station(value):
    """Whether any value is a station."""
    if not isinstance(value, tuple) or len(value) != 3:
        return False
    return is_between(value[0], 1, 4) and is_between(value[1], 1, 10) and is_between(value[2], 0, 10)


def _is_filled(station, value, most):
    """Whether any value tells who is in the handlers and in the queue of a station; who is at most so much."""
    handlers, ticks, places = station
    if not isinstance(value, tuple) or len(value) != 2:
        return False
    inside, queue = value
    if not isinstance(inside, tuple) or not isinstance(queue, tuple) or len(inside) > handlers or len(queue) > places:
        return False
    if not all([isinstance(row, tuple) and len(row) == 2 and is_between(row[0], 1, ticks) for row in inside]):
        return False
    return all([who is None or is_between(who, 0, most) for who in [row[1] for row in inside] + list(queue)])


def _all_who(stations):
    """Who is in the handlers and queues of all stations."""
    found = []
    for inside, queue in stations:
        found += [who for _, who in inside] + list(queue)
    return found
