"""A second reckoning of tables: it goes through all ways one by one, and takes the greatest at the end.

The ways of a table for so many ticks left are a list of tuples (how, tick, number).
"""

import random

from mostcalls.rows import Rows
from mostcalls.tables import Table

END, FAIL, STOP = 'end', 'fail', 'stop'


def drawn_function(seed, longest=5, least=-9):
    """a function that tells drawn rows, others for each number of ticks left; and how often it was called."""
    asked = []

    def rows(left):
        asked.append(left)
        rng = random.Random(f'{seed} {left}')
        most = longest if left is None else min(left, longest)
        drawn = []
        for _ in range(3):
            share = rng.choice((0.2, 0.5, 0.9))
            drawn.append({tick: rng.randint(least, 30) for tick in range(most + 1) if rng.random() < share})
        return Rows(*drawn)
    return rows, asked


def drawn_table(seed, longest=5):
    return Table(drawn_function(seed, longest)[0])


def ways_of(rows):
    """all ways of Rows."""
    return [(how, tick, number) for how, row in ((END, rows.answers), (FAIL, rows.fails), (STOP, rows.stops))
            for tick, number in row.items()]


def rows_of(ways, left):
    """the Rows of some ways, those behind the ticks left taken out."""
    rows = {END: {}, FAIL: {}, STOP: {}}
    for how, tick, number in ways:
        if left is None or tick <= left:
            rows[how][tick] = max(number, rows[how].get(tick, number))
    return Rows(rows[END], rows[FAIL], rows[STOP])


def behind(one, other, left):
    """the ways of `one >> other`; both are functions that tell ways for so many ticks left."""
    found = []
    for how, tick, number in one(left):
        if how != END:
            found.append((how, tick, number))
            continue
        rest = other(None if left is None else left - tick)
        found += [(next_how, tick + next_tick, number + more) for next_how, next_tick, more in rest]
    return found


def at_once(one, other, left):
    """the ways of `one & other`."""
    found = []
    for first in one(left):
        for second in other(left):
            both = pair(first, second) or pair(second, first)
            if both is not None:
                found.append(both + (first[2] + second[2],))
    return found


def pair(first, second):
    """how and when a part ends if its first block did the first and its second one the second, or None."""
    how, tick, _ = first
    other_how, other_tick, _ = second
    if how == END and other_how == END:
        return END, max(tick, other_tick)
    if how == FAIL and (other_how == END and other_tick <= tick or other_how != END and other_tick == tick):
        return FAIL, tick
    if how == STOP and (other_how == END and other_tick <= tick or other_how == STOP and other_tick == tick):
        return STOP, tick
    return None


def tries_of(policy, callee, begin, left, cost):
    """all ways of a try: tuples ('answered' | 'failed' | 'given', tick from its beginning, number).

    Those that are given up at each tick up to the limit stand beside one another.
    """
    limit = policy.limit
    mine = None
    if policy.ending[0] == 'deadline':
        mine = limit if left is None else min(limit, left - begin)
    ways = callee(mine)
    found = []
    for how, tick, number in ways:
        if how != STOP and tick <= limit:
            found.append(('answered' if how == END else 'failed', tick, number + cost))
    for given in range(limit + 1):
        until = given + policy.ending[1] if policy.ending[0] == 'stop' else mine
        for how, tick, number in ways:
            if how == STOP:
                stands = until is not None and tick == until
            else:
                stands = tick > given and (until is None or tick <= until) or tick <= given and policy.lossy
            if stands:
                found.append(('given', given, number + cost))
    return found


def called(policy, callee, left, cost=0):
    """the ways of a call."""
    if policy.early is None:
        return one_by_one(policy, callee, left, cost, 0, 0, 0)
    return early(policy, callee, left, cost)


def one_by_one(policy, callee, left, cost, index, begin, total):
    if left is not None and begin > left:
        return []
    found = []
    for what, tick, number in tries_of(policy, callee, begin, left, cost):
        at, number = begin + tick, total + number
        if what == 'answered':
            found.append((END, at, number))
        elif what == 'given' and tick < policy.limit:
            found.append((STOP, at, number))
        elif index == policy.tries - 1:
            found.append((FAIL, at, number))
        else:
            pause = policy.pauses[index]
            found += [(STOP, at + ticks, number) for ticks in range(pause)]
            found += one_by_one(policy, callee, left, cost, index + 1, at + pause, number)
    return found


def early(policy, callee, left, cost):
    begins = [number * policy.early for number in range(policy.tries)]
    begins = [tick for tick in begins if left is None or tick <= left]
    found = []
    for many in range(1, len(begins) + 1):
        lists = [tries_of(policy, callee, begin, left, cost) for begin in begins[:many]]
        for chosen in combinations([shorter(ways) for ways in lists]):
            found += early_ways(policy, begins, chosen)
    return found


def shorter(ways):
    """ways of which each stands once, with its greatest number: so that there are not too many."""
    best = {}
    for what, tick, number in ways:
        best[what, tick] = max(number, best.get((what, tick), number))
    return [(what, tick, number) for (what, tick), number in best.items()]


def combinations(lists):
    if not lists:
        return [()]
    return [(first,) + rest for first in lists[0] for rest in combinations(lists[1:])]


def early_ways(policy, begins, chosen):
    """what comes of it if just these tries began and did this; the tick at which the call ends, fails or is stopped."""
    many = len(chosen)
    total = sum(number for _, _, number in chosen)
    at = [(what, begin + tick, tick) for begin, (what, tick, _) in zip(begins, chosen)]
    found = []
    answers = [tick for what, tick, _ in at if what == 'answered']
    others = [(what, tick, after) for what, tick, after in at if what != 'answered']
    # A try that is given up ahead of its limit is so by the end or the stop of the call, all at one tick.
    cut = {tick for what, tick, after in others if what == 'given' and after < policy.limit}
    over = [tick for what, tick, after in others if what == 'failed' or after == policy.limit]

    def begun(tick):
        return len([number for number in range(policy.tries) if number * policy.early <= tick])

    if answers:
        tick = answers[0]
        if set(answers) == {tick} and cut <= {tick} and all(end <= tick for end in over) and begun(tick) == many:
            found.append((END, tick, total))
        return found
    if not cut:
        tick = max(over)
        if many == policy.tries and tick >= begins[-1]:
            found.append((FAIL, tick, total))
        elif many < policy.tries:
            for tick in range(max(over + [begins[many - 1]]), many * policy.early):
                found.append((STOP, tick, total))
    elif len(cut) == 1:
        tick = list(cut)[0]
        if begun(tick) == many and all(end <= tick for end in over):
            found.append((STOP, tick, total))
    return found
