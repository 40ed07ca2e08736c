"""A second reckoning of lanes: requests by the words of the document, and greatest means by Karp's rule."""

import itertools
import random
from fractions import Fraction

from mostcalls.lanes import Lane
from mostcalls.policies import Policy
from mostcalls.systems import System


def with_tries(system, entry, many):
    policy = system.policy(system[entry][0][2])
    return system.with_policy(policy.changed(tries=many, pauses=policy.pauses[:many - 1]))


def request(lane, state, outcomes):
    """what a request does if its tries, as far as they begin, go so: the ways, and the state ahead of the gap."""
    policy = lane.system.policy(lane.system[lane.entry][0][2])
    tokens, fails, closed = state
    if closed != 0:
        return (), state
    if lane.budget:
        part, whole, most = lane.budget
        tokens += part
        if tokens > whole * most:
            tokens = whole * most
    ways = []
    for number in range(policy.tries):
        ways.append(outcomes[number])
        if outcomes[number]:
            fails = 0
            break
        if lane.breaker:
            fails += 1
            if fails == lane.breaker[0]:
                closed = lane.breaker[1]
                fails = lane.breaker[0] - 1
        if number + 1 < policy.tries:
            closed -= policy.pauses[number]
            if closed < 0:
                closed = 0
            if closed != 0:
                break
            if lane.budget:
                if tokens < lane.budget[1]:
                    break
                tokens -= lane.budget[1]
    return tuple(ways), (tokens, fails, closed)


def steps(lane, state, possible):
    """the list of the tuples (step, state behind it); possible tells which outcomes a try can have."""
    policy = lane.system.policy(lane.system[lane.entry][0][2])
    found = {}
    for outcomes in itertools.product(possible, repeat=policy.tries):
        ways, (tokens, fails, closed) = request(lane, state, outcomes)
        for gap in range(lane.gap[0], lane.gap[1] + 1):
            found[ways, gap] = (tokens, fails, max(0, closed - gap))
    return sorted(found.items())


def states(lane, possible):
    first = (lane.budget[1] * lane.budget[2] if lane.budget else 0, 0, 0)
    found = [first]
    for state in found:
        found += sorted({behind for _, behind in steps(lane, state, possible)} - set(found))
    return sorted(found)


def greatest_mean(lane, measure):
    """Karp's rule, with fractions."""
    names = list(lane)
    edges = [(names.index(state), names.index(behind), lane.weight(measure, step))
             for state in names for step, behind in lane.steps(state)]
    many = len(names)
    best = [[None] * many for _ in range(many + 1)]
    best[0][names.index(lane.first())] = 0
    for length in range(many):
        for begin, end, weight in edges:
            if best[length][begin] is not None:
                total = best[length][begin] + weight
                if best[length + 1][end] is None or total > best[length + 1][end]:
                    best[length + 1][end] = total
    means = []
    for place in range(many):
        if best[many][place] is not None:
            means.append(min(Fraction(best[many][place] - best[length][place], many - length)
                             for length in range(many) if best[length][place] is not None))
    return max(means).numerator, max(means).denominator


def drawn_lane(seed):
    rng = random.Random(f'lane {seed}')
    ending = rng.choice((('go',), ('deadline',), ('stop', rng.randint(0, 3))))
    tries = rng.randint(1, 3)
    policy = Policy('p', rng.randint(1, 4), tries=tries, lossy=rng.random() < 0.3, ending=ending,
                    pauses=tuple(rng.choice((0, 0, 1, 3)) for _ in range(tries - 1)))
    inner = Policy('q', rng.randint(1, 2), tries=rng.randint(1, 2), ending=rng.choice((('go',), ('deadline',))))
    block = rng.choice(((('run', 0, 1), ('risk',)), (('risk',),), (('run', 1, 3),), (('run', 1, 1),), (('run', 5, 6),)))
    outer = rng.choice(((('call', 'a', 'q'),), (('call', 'a', 'q'), ('risk',)), (('maybe', (('want', 'a', 'q'),)),)))
    system = System([policy, inner], [('a', block), ('b', outer), ('e', (('call', rng.choice('ab'), 'p'),))])
    gap = rng.choice(((0, 0), (0, 1), (1, 3), (2, 2)))
    budget = rng.choice((None, (1, 1, 2), (1, 3, 2), (2, 3, 1), (3, 5, 2)))
    breaker = rng.choice((None, (1, 2), (2, 4), (3, 5), (4, 3)))
    return Lane(system, 'e', gap=gap, budget=budget, breaker=breaker)
