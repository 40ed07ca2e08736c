"""A second machine, written otherwise: it plays everything as if nobody were stopped, and then again up to the stop.

It is slow and follows the words of the document; the tests compare the package's machine with it.
"""

ENDED, FAILED, STOPPED = 'ended', 'failed', 'stopped'


def least(*ticks):
    told = [tick for tick in ticks if tick is not None]
    return min(told) if told else None


class Log:
    def __init__(self):
        self.spans = {}
        self.worked = []
        self.met = {}
        self.faults = 0


class Reference:
    """plays a request; `choices` is a dict from paths to possible choices."""

    def __init__(self, system, entry, choices):
        self.system = system
        self.choices = choices
        self.log = Log()
        self.handler(self.log, (), entry, 0, None, None, None, None)

    def choose(self, log, path, low, fault):
        choice = self.choices.get(path, low)
        log.met[path] = choice
        if fault and choice > low:
            log.faults += 1
        return choice

    def handler(self, log, path, service, begin, deadline, stop, given, unwanted):
        """plays a handler run that is stopped at the earlier one of deadline and stop; tells (how, end)."""
        unwanted = least(unwanted, given)
        mine = Log()
        context = (path, service, deadline, unwanted)
        how, end = self.block(mine, context, self.system[service], path, begin, least(deadline, stop))
        name = {ENDED: 'answered', FAILED: 'failed', STOPPED: 'stopped'}[how]
        log.spans[path] = (path, service, begin, end, name, given, unwanted)
        self.merge(log, mine)
        return name, end

    def merge(self, log, other):
        log.spans.update(other.spans)
        log.worked += other.worked
        log.met.update(other.met)
        log.faults += other.faults

    def block(self, log, context, block, path, begin, stop):
        """plays a block up to the tick stop, all of this tick included; tells (how, end)."""
        tick = begin
        for index, part in enumerate(block):
            how, tick = self.part(log, context, part, path + (index,), tick, stop)
            if how == FAILED and part[0] != 'want' or how == STOPPED:
                return how, tick
        return ENDED, tick

    def part(self, log, context, part, path, begin, stop):
        kind = part[0]
        if kind == 'run':
            end = begin + self.choose(log, path, part[1], True)
            is_stopped = stop is not None and end > stop
            if is_stopped:
                end = stop
            log.worked.append((context[0], context[1], begin, end))
            return (STOPPED if is_stopped else ENDED), end
        if kind == 'risk':
            return (FAILED if self.choose(log, path, 0, True) else ENDED), begin
        if kind == 'maybe':
            if self.choose(log, path, 0, False):
                return self.block(log, context, part[1], path, begin, stop)
            return ENDED, begin
        if kind == 'both':
            return self.both(log, context, part, path, begin, stop)
        policy = self.system.policy(part[2])
        if policy.early is None:
            return self.paused(log, context, part[1], policy, path, begin, stop)
        return self.early(log, context, part[1], policy, path, begin, stop)

    def both(self, log, context, part, path, begin, stop):
        def side(number, until):
            mine = Log()
            how, end = self.block(mine, context, part[1 + number], path + (number,), begin, until)
            return mine, how, end

        fails = []
        for number in (0, 1):
            _, how, end = side(number, stop)
            if how == FAILED:
                fails.append(end)
        until = least(stop, *fails)
        results = []
        for number in (0, 1):
            mine, how, end = side(number, until)
            self.merge(log, mine)
            results.append((how, end))
        if fails:
            return FAILED, min(fails)
        if STOPPED in [how for how, _ in results]:
            return STOPPED, stop
        return ENDED, max(end for _, end in results)

    def trial(self, context, callee, policy, path, begin, horizon):
        """how a try goes if nothing but its limit ends it: ('answered' | 'failed' | 'given', tick).

        Nothing behind the tick horizon is played; then it is as if it were given up at its limit.
        """
        by = begin + policy.limit
        lost = policy.lossy and self.choices.get(path, 0) == 1
        deadline = self.deadline(context, policy, begin)
        how, end = self.handler(Log(), path, callee, begin, deadline, least(by, horizon), None, None)
        if how == 'stopped' or lost:
            return 'given', by
        return how, end

    def deadline(self, context, policy, begin):
        if policy.ending[0] != 'deadline':
            return None
        return least(begin + policy.limit, context[2])

    def do_try(self, log, context, callee, policy, path, begin, given):
        """plays a try for good; given is the tick at which it is given up, or None."""
        if policy.lossy:
            self.choose(log, path, 0, True)
        stop = None
        if given is not None and policy.ending[0] == 'stop':
            stop = given + policy.ending[1]
        deadline = self.deadline(context, policy, begin)
        self.handler(log, path, callee, begin, deadline, stop, given, context[3])

    def paused(self, log, context, callee, policy, path, begin, stop):
        tick = begin
        for number in range(policy.tries):
            mine = path + (number,)
            how, end = self.trial(context, callee, policy, mine, tick, stop)
            if stop is not None and end > stop:
                self.do_try(log, context, callee, policy, mine, tick, stop)
                return STOPPED, stop
            self.do_try(log, context, callee, policy, mine, tick, end if how == 'given' else None)
            if how == 'answered':
                return ENDED, end
            if number == policy.tries - 1:
                return FAILED, end
            tick = end + policy.pauses[number]
            if stop is not None and tick > stop:
                return STOPPED, stop

    def early(self, log, context, callee, policy, path, begin, stop):
        begins = [begin + number * policy.early for number in range(policy.tries)]
        if stop is not None:
            begins = [tick for tick in begins if tick <= stop]
        results = [self.trial(context, callee, policy, path + (number,), tick, stop)
                   for number, tick in enumerate(begins)]
        answers = [end for how, end in results if how == 'answered' and (stop is None or end <= stop)]
        if answers:
            over, how_over = min(answers), ENDED
        elif len(begins) < policy.tries or stop is not None and max(end for _, end in results) > stop:
            over, how_over = stop, STOPPED
        else:
            over, how_over = max(end for _, end in results), FAILED
        for number, tick in enumerate(begins):
            if tick > over:
                continue
            how, end = results[number]
            given = end if how == 'given' else None
            if end > over:
                given = over
            self.do_try(log, context, callee, policy, path + (number,), tick, given)
        return how_over, over

    def spans(self):
        return sorted(span[:6] for span in self.log.spans.values())

    def unwanted(self, path):
        return self.log.spans[path][6]

    def nobody(self, service):
        total = 0
        for path, name, begin, end in self.log.worked:
            since = self.unwanted(path)
            if name == service and since is not None:
                total += max(0, end - max(begin, since))
        return total
