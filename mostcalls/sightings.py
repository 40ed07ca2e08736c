"""Sightings: whether a request can have the handler runs that spans tell, and by which choices.

A span is a tuple (path, service, begin, end, how). A handler run with spans on its path or below has ways of its own:
those on which all these spans come about. To see that none of them is missing, the number of a way is how many of them
it has. Other handler runs have the ways of their services; if the spans are all that there may be, they have none.

When a handler run becomes unwanted does not matter here. In place of the ticks until then sources are told those until
a far tick, from which what has spans below knows when it begins.
"""

from mostcalls.attempts import Call
from mostcalls.blocks import block_span, is_call
from mostcalls.manners import HERE, NOTHING_YET, Found, choices_of, raised
from mostcalls.reckoning import Blocks, Reckoning
from mostcalls.ways import Both, Chain, Maybe, Source, Want, Ways, later, longest_of

FAR = 1000000
# A measure for which nothing counts.
NOTHING = ("nothing",)


class Ground:
    """What has no spans below: handler runs with all their ways, or, if it is bare, with none."""

    def __init__(self, system, is_bare):
        self.world = system
        self.is_bare = is_bare
        by_name = {name: Missing() for name in system} if is_bare else Reckoning(system, NOTHING).by_name
        self.blocks = Blocks(system, NOTHING, by_name)
        self.manner = self.blocks.manner
        self.terms = {name: system.policy(name) for name in system.policies()}
        self.known = {}

    def chain(self, service, place, block, begin, end):
        """The ways of some parts, one behind the other, of a block that stands at a place of a service."""
        key = (service, place, begin, end)
        if key not in self.known:
            sources = [self.blocks.of_part(service, part) for part in block[begin:end]]
            self.known[key] = Timeless(Chain(self.manner, sources, list(range(begin, end))))
        return self.known[key]


class Timeless:
    """A source of ways which are the same whenever it begins."""

    def __init__(self, source):
        self.source = source
        self.longest = source.longest

    def ways(self, left, wanted):
        """The ways."""
        return self.source.ways(left, None)


class Missing:
    """A handler run that must not begin."""

    def ways(self, left, wanted):
        """No ways."""
        return Ways({}, {}, {})


class Sighting:
    """A source with spans below, and the least and the greatest tick at which it can begin."""

    def __init__(self, source, soonest, latest):
        self.source = source
        self.soonest = soonest
        self.latest = latest


class SightedChain(Source):
    """Parts one behind the other, some with spans below; ways that have missed one of these are left out.

    The parts stand under indexes, and are told with the numbers of spans up to each of them.
    """

    def __init__(self, manner, parts, indexes, counts):
        super().__init__(manner, longest_of([part.longest for part in parts], False))
        self.parts = parts
        self.indexes = indexes
        self.counts = counts

    def reckoned(self, left, wanted):
        ended = {0: NOTHING_YET}
        failed = Found(self.manner)
        stopped = Found(self.manner)
        for part, index, count in zip(self.parts, self.indexes, self.counts):
            found = Found(self.manner)
            for tick, number in ended.items():
                if left is None or tick <= left:
                    rest = part.ways(later(left, tick), later(wanted, tick))
                    found.put_behind(number, tick, rest.ended, index)
                    if count == self.counts[-1]:
                        failed.put_behind(number, tick, rest.failed, index)
                        stopped.put_behind(number, tick, rest.stopped, index)
            ended = with_value(found.row(), count)
        return Ways(ended, with_value(failed.row(), self.counts[-1]), with_value(stopped.row(), self.counts[-1]))


class SightedCall(Call):
    """A call, some of whose tries, by their indexes, are those of calls with spans below, the others of a plain one."""

    def __init__(self, plain, sighted, soonest, latest):
        super().__init__(plain.manner, plain.terms, plain.callee, 0)
        self.plain = plain
        self.sighted = sighted
        self.soonest = soonest
        self.latest = latest

    def ways(self, left, wanted):
        """The ways; none where it begins too soon or too late."""
        if self.soonest <= FAR - wanted <= self.latest:
            return super().ways(left, wanted)
        return Ways({}, {}, {})

    def attempt(self, index, tick, left, wanted):
        """The try with an index."""
        if index in self.sighted:
            return self.sighted[index].attempt(index, tick, left, wanted)
        return self.plain.attempt(index, tick, left, None)


class Sighted:
    """The handler run of a path on which, or below which, spans are told."""

    def __init__(self, sought, path, service):
        self.sought = sought
        self.ground = sought.ground
        self.path = path
        self.service = service
        self.told = sought.by_path.get(path)
        self.block = self._block(self.ground.world[service], ())
        self.soonest = self.block.soonest
        self.latest = self.block.latest
        if self.told is not None:
            self.soonest = max(self.soonest, self.told[2])
            self.latest = min(self.latest, self.told[2])
        elif self.ground.is_bare:
            self.latest = -1

    def ways(self, left, wanted):
        """The ways that have all spans told; none if it begins too soon or too late."""
        begin = FAR - wanted
        if not self.soonest <= begin <= self.latest:
            return Ways({}, {}, {})
        ways = self.block.source.ways(left, wanted)
        ended = self._row(ways.ended, begin, "answered")
        failed = self._row(ways.failed, begin, "failed")
        return Ways(ended, failed, self._row(ways.stopped, begin, "stopped"))

    def _row(self, row, begin, how):
        """The numbers of a row of its block that tell all spans, its own one included."""
        cost = 0
        if self.told is not None:
            _, _, _, end, outcome = self.told
            row = {tick: row[tick] for tick in row if begin + tick == end and how == outcome}
            cost = 1
        return with_value({tick: raised(row[tick], cost) for tick in row}, self.sought.counts[self.path])

    def _block(self, block, place):
        """The sighting of a block that stands at a place of the service's block."""
        sources, indexes, counts = [], [], []
        soonest, latest = 0, FAR
        done, count = 0, 0
        for index, part in enumerate(block):
            if self.path + place + (index,) in self.sought.counts:
                inner = self._part(part, place + (index,))
                soonest = max(soonest, inner.soonest - block_span(block[:index], self.ground.terms))
                latest = min(latest, inner.latest - _least_ticks(block[:index]))
                sources += [self.ground.chain(self.service, place, block, done, index), inner.source]
                indexes += [HERE, index]
                counts += [count, count + self.sought.counts[self.path + place + (index,)]]
                done, count = index + 1, counts[-1]
        sources.append(self.ground.chain(self.service, place, block, done, len(block)))
        chain = SightedChain(self.ground.manner, sources, indexes + [HERE], counts + [count])
        return Sighting(chain, soonest, latest)

    def _part(self, part, place):
        """The sighting of the part at a place."""
        manner = self.ground.manner
        if is_call(part):
            call = self._call(part, self.path + place)
            return Sighting(Want(manner, call) if part[0] == "want" else call, call.soonest, call.latest)
        if part[0] == "maybe":
            inner = self._block(part[1], place)
            return Sighting(Maybe(manner, inner.source), inner.soonest, inner.latest)
        one, other = self._block(part[1], place + (0,)), self._block(part[2], place + (1,))
        both = Both(manner, one.source, other.source)
        return Sighting(both, max(one.soonest, other.soonest), min(one.latest, other.latest))

    def _call(self, part, path):
        """The ways of a call, some of whose tries have ways of their own."""
        _, callee, policy = part
        terms = self.ground.terms[policy]
        sighted = {}
        soonest, latest = 0, FAR
        for index in range(terms.tries):
            where = path + (index,)
            if where in self.sought.counts:
                handler = Sighted(self.sought, where, callee)
                sighted[index] = Call(self.ground.manner, terms, handler, 0)
                soonest = max(soonest, handler.soonest - _most_ticks_ahead(terms, index))
                latest = min(latest, handler.latest - _least_ticks_ahead(terms, index))
        return SightedCall(self.ground.blocks.of_call(callee, policy), sighted, soonest, latest)


class Sought:
    """The spans that are looked for, at least one."""

    def __init__(self, ground, spans):
        self.ground = ground
        self.by_path = {span[0]: span for span in spans}
        # For each path that leads to spans, how many these are.
        self.counts = {}
        for path in self.by_path:
            for length in range(len(path) + 1):
                self.counts[path[:length]] = self.counts.get(path[:length], 0) + 1


def can_have(ground, entry, spans):
    """Whether a request at an entry can have spans, one at least, beside those that the ground allows."""
    return len(_numbers_with(ground, entry, spans)) > 0


def choices_with_just(system, entry, spans):
    """Choices of a request at an entry that has spans, one at least, and no others, None if there is none."""
    numbers = _numbers_with(Ground(system, True), entry, spans)
    return choices_of(numbers[0][0][2]) if len(numbers) > 0 else None


def _numbers_with(ground, entry, spans):
    """The numbers of all ways of a request to end that has spans, each on a path of its own to a try of its service."""
    ways = Sighted(Sought(ground, spans), (), entry).ways(None, FAR)
    return list(ways.ended.values()) + list(ways.failed.values())


def with_value(row, value):
    """The numbers of a row that have a value."""
    return {tick: row[tick] for tick in row if row[tick][0][1] == value}


def _least_ticks(block):
    """So many ticks, at least, a block takes from its beginning to its end."""
    return sum([part[1] for part in block if part[0] == "run"])


def _least_ticks_ahead(policy, index):
    """So many ticks, at least, lie between the beginning of a call and that of the try with an index."""
    return sum(policy.pauses[:index]) if policy.early is None else index * policy.early


def _most_ticks_ahead(policy, index):
    """So many ticks, at most, lie between the beginning of a call and that of the try with an index."""
    least = _least_ticks_ahead(policy, index)
    return least + index * policy.limit if policy.early is None else least
