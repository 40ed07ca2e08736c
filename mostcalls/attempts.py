"""Calls: the ways of one try after the other, or of tries that do not wait for one another."""

from mostcalls.blocks import call_span
from mostcalls.manners import NO_NUMBER, NOTHING_YET, Found, raised
from mostcalls.ways import Source, Ways, later, told_ticks


class Attempt:
    """What a caller sees of a try, by ticks from its beginning; left and wanted are those of its handler run."""

    def __init__(self, manner, policy, callee, left, wanted):
        self.manner = manner
        self.terms = policy
        self.callee = callee
        self.left = left
        self.wanted = wanted
        self.known = {}
        # What comes of the handler run while its try is not given up.
        self.plain = callee.ways(left, wanted)
        self.answered = {tick: number for tick, number in self.plain.ended.items() if tick <= policy.limit}
        self.failed = {tick: number for tick, number in self.plain.failed.items() if tick <= policy.limit}

    def given_up(self, tick):
        """The number of all ways to be given up at a tick: all that the handler run can still cause counts."""
        if tick not in self.known:
            self.known[tick] = self._given_up(tick)
        return self.known[tick]

    def without_answer(self, last):
        """The numbers by the ticks, up to a last one or None, at which the try has failed or reaches its limit."""
        if last is not None and last < self.terms.limit:
            return self.failed
        found = Found(self.manner)
        found.put_row(self.failed)
        found.put(self.terms.limit, self.given_up(self.terms.limit))
        return found.row()

    def under_way(self, last):
        """The numbers by the ticks ahead of its limit, up to a last one or None, at which it can be given up."""
        most = self.terms.limit - 1 if last is None else min(last, self.terms.limit - 1)
        return told_ticks({tick: self.given_up(tick) for tick in range(most + 1)})

    def _given_up(self, tick):
        number = self._still_caused(self.plain, tick)
        if len(number) == 0 or not self.manner.minds_wanted:
            return number
        return self._still_caused(self.callee.ways(self.left, self._wanted_until(tick)), tick)

    def _still_caused(self, ways, tick):
        """The number of all these ways of the handler run for which its try can be given up at a tick."""
        manner = self.manner
        # The tick at which the handler run is stopped, or None.
        halt = tick + self.terms.ending[1] if self.terms.ending[0] == "stop" else self.left
        found = Found(manner)
        for row in (ways.ended, ways.failed):
            for end, number in row.items():
                if end <= tick:
                    if self.terms.lossy:
                        found.put(0, manner.marked(number, 1, manner.fault))
                elif halt is None or end <= halt:
                    found.put(0, number)
        if halt is not None:
            found.put(0, ways.stopped.get(halt, NO_NUMBER))
        return found.row().get(0, NO_NUMBER)

    def _wanted_until(self, tick):
        """The tick from which the handler run is unwanted if its try is given up at this one."""
        return tick if self.wanted is None else min(tick, self.wanted)


class Call(Source):
    """A call by a policy of a callee, a source of ways; each try costs a number."""

    def __init__(self, manner, policy, callee, cost):
        super().__init__(manner, call_span(policy))
        self.terms = policy
        self.callee = callee
        self.cost = cost
        self.attempts = {}

    def reckoned(self, left, wanted):
        if self.terms.early is None:
            rows = self._one_by_one(left, wanted)
        else:
            rows = EarlyTries(self, left, wanted).rows()
        rows = [self._right(row, left) for row in rows]
        return Ways(rows[0], rows[1], rows[2])

    def attempt(self, index, tick, left, wanted):
        """The try with an index, which begins at a tick of the call; here all tries have the same ways."""
        limit = self.terms.limit
        ticks = None
        if self.terms.ending[0] == "deadline":
            ticks = limit if left is None else min(limit, left - tick)
        key = (ticks, later(wanted, tick))
        if key not in self.attempts:
            self.attempts[key] = Attempt(self.manner, self.terms, self.callee, key[0], key[1])
        return self.attempts[key]

    def _one_by_one(self, left, wanted):
        """The rows of tries that wait for the end of the one before."""
        ended, stopped = Found(self.manner), Found(self.manner)
        begins = {0: NOTHING_YET}
        over = {}
        for index in range(self.terms.tries):
            found = Found(self.manner)
            for tick, number in begins.items():
                if left is None or tick <= left:
                    attempt = self.attempt(index, tick, left, wanted)
                    last = None if left is None else left - tick
                    number = raised(number, self.cost)
                    ended.put_behind(number, tick, attempt.answered, index)
                    found.put_behind(number, tick, attempt.without_answer(last), index)
                    stopped.put_behind(number, tick, attempt.under_way(last), index)
            over = found.row()
            if index < self.terms.tries - 1:
                pause = self.terms.pauses[index]
                for tick, number in over.items():
                    for later_tick in range(tick, tick + pause):
                        stopped.put(later_tick, number)
                begins = {tick + pause: number for tick, number in over.items()}
        return [ended.row(), over, stopped.row()]

    def _right(self, row, left):
        """A row without ticks beyond those that are left; of last ticks, none is less than that of its row."""
        ticks = [tick for tick in row if len(row[tick]) > 0 and (left is None or tick <= left)]
        if not self.manner.is_greatest:
            return {tick: row[tick] for tick in ticks}
        return {tick: ((0, max(tick, row[tick][0][1]), row[tick][0][2]),) for tick in ticks}


class EarlyTries:
    """The tries of a call that do not wait for one another."""

    def __init__(self, call, left, wanted):
        self.call = call
        self.left = left
        self.wanted = wanted
        self.manner = call.manner
        self.terms = call.terms
        begins = [index * call.terms.early for index in range(call.terms.tries)]
        self.end_by = begins[-1] + call.terms.limit
        if left is not None:
            self.end_by = min(self.end_by, left)
        self.begins = [tick for tick in begins if tick <= self.end_by]
        self.attempts = []
        # For each try, the number of all ways to be over, without an answer, ahead of the tick that is looked at.
        self.over_before = []

    def rows(self):
        """The rows of the call."""
        ended, failed, stopped = {}, {}, {}
        for tick in range(self.end_by + 1):
            if tick in self.begins:
                index = len(self.attempts)
                self.attempts.append(self.call.attempt(index, tick, self.left, self.wanted))
                self.over_before.append(NO_NUMBER)
            indexes = list(range(len(self.attempts)))
            over = [self._over_at(index, tick) for index in indexes]
            over_by = [self.manner.greatest([self.over_before[index], over[index]]) for index in indexes]
            under_way = [self._under_way(index, tick) for index in indexes]
            rests = [self.manner.greatest([over_by[index], under_way[index]]) for index in indexes]
            ended[tick] = self._some([self._answered(index, tick) for index in indexes], rests)
            if len(indexes) == self.terms.tries:
                failed[tick] = self._some(over, self.over_before)
                stopped[tick] = self._some(under_way, over_by)
            else:
                stopped[tick] = self._all(rests)
            self.over_before = over_by
        return [ended, failed, stopped]

    def _over_at(self, index, tick):
        """The number of a try that has failed, or reaches its limit, at a tick of the call."""
        after = tick - self.begins[index]
        attempt = self.attempts[index]
        if after == self.terms.limit:
            return self.manner.greatest([attempt.failed.get(after, NO_NUMBER), attempt.given_up(after)])
        return attempt.failed.get(after, NO_NUMBER)

    def _under_way(self, index, tick):
        """The number of a try that is given up at a tick of the call, ahead of its limit."""
        after = tick - self.begins[index]
        return self.attempts[index].given_up(after) if after < self.terms.limit else NO_NUMBER

    def _answered(self, index, tick):
        """The number of a try that is answered at a tick of the call."""
        return self.attempts[index].answered.get(tick - self.begins[index], NO_NUMBER)

    def _all(self, numbers):
        """The number of all tries together."""
        total = NOTHING_YET
        for index, number in enumerate(numbers):
            total = self._with(total, index, number)
        return total

    def _some(self, numbers, rests):
        """The number of all tries together, where at least one has its first number, the others have any."""
        none = NOTHING_YET
        some = NO_NUMBER
        for index, number in enumerate(numbers):
            ways = [self._with(some, index, number), self._with(some, index, rests[index])]
            ways.append(self._with(none, index, number))
            some = self.manner.greatest(ways)
            none = self._with(none, index, rests[index])
        return some

    def _with(self, number, index, other):
        """A number with that of one more try."""
        begin = self.begins[index]
        return self.manner.joined(number, begin, raised(other, self.call.cost), index)
