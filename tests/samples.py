"""Systems and patterns for the tests, the same ones each time: the numbers come from told seeds."""

import random

from mostcalls.errors import TooLong
from mostcalls.policies import Policy
from mostcalls.systems import System

NAMES = ('a', 'b', 'c', 'd', 'e', 'f')


def some_policy(rng, name, short):
    most = 4 if short else 20
    fields = {'tries': rng.choice((1, 2, 2, 3)), 'lossy': rng.random() < 0.3}
    fields['ending'] = rng.choice((('go',), ('deadline',), ('stop', 0), ('stop', rng.randint(0, most))))
    if fields['tries'] > 1 and rng.random() < 0.4:
        fields['early'] = rng.randint(1, most)
    elif rng.random() < 0.8:
        fields['pauses'] = tuple(rng.choice((0, 0, 1, rng.randint(0, min(most, 8)))) for _ in range(fields['tries'] - 1))
    return Policy(name, rng.randint(1, most), **fields)


def some_block(rng, ahead, policies, around, short, length):
    parts = []
    for _ in range(rng.randint(0, length)):
        kinds = ['run', 'risk'] + ['call', 'want', 'call', 'want'] * bool(ahead and policies)
        kinds += ['maybe', 'both', 'both'] * (around < 2)
        kind = rng.choice(kinds)
        if kind == 'run':
            low = rng.randint(0, 3 if short else 10)
            parts.append(('run', low, rng.randint(low, min(20, low + 4 if short else 20))))
        elif kind == 'risk':
            parts.append(('risk',))
        elif kind in ('call', 'want'):
            parts.append((kind, rng.choice(ahead), rng.choice(policies)))
        elif kind == 'maybe':
            parts.append(('maybe', some_block(rng, ahead, policies, around + 1, short, 2)))
        else:
            first = some_block(rng, ahead, policies, around + 1, short, 2)
            second = some_block(rng, ahead, policies, around + 1, short, 2)
            parts.append(('both', first, second))
    return tuple(parts)


def count_parts(block):
    total = 0
    for part in block:
        total += 1
        if part[0] in ('maybe', 'both'):
            total += sum(count_parts(inner) for inner in part[1:])
    return total


def some_system(seed, services=3, length=3, short=True):
    """a system of so many services; its ticks are few if it is short."""
    rng = random.Random(seed)
    while True:
        policies = [some_policy(rng, 'p' + NAMES[number], short) for number in range(rng.randint(1, 3))]
        names = [policy.name for policy in policies]
        rows = []
        for number in range(services):
            ahead = [name for name, _ in rows]
            block = some_block(rng, ahead, names, 0, short, length)
            while count_parts(block) > 12:
                block = some_block(rng, ahead, names, 0, short, length)
            rows.append((NAMES[number], block))
        try:
            return System(policies, rows)
        except TooLong:
            pass


def million_system():
    """a system in which one request can cause more than a million calls, far too many for a pattern."""
    slow = Policy('slow', 20, tries=3, early=7, lossy=True)
    fast = Policy('fast', 9, tries=3, pauses=(3, 8), lossy=True)
    rows = [('a', (('run', 0, 20), ('risk',), ('maybe', (('run', 0, 20),))))]
    for name in 'bcdef':
        last = rows[-1][0]
        rows.append((name, (
            ('both', (('want', last, 'slow'),), (('call', last, 'fast'),)), ('run', 0, 20), ('want', last, 'slow'),
            ('maybe', (('call', last, 'fast'),)), ('call', last, 'slow'), ('want', 'a', 'fast'), ('risk',), ('call', last, 'fast'))))
    return System([slow, fast], rows)


class Drawn(dict):
    """choices that are drawn when they are asked for the first time."""

    def __init__(self, rng):
        super().__init__()
        self.rng = rng

    def draw(self, path, low, high):
        if path not in self:
            self[path] = self.rng.choice((low, high, self.rng.randint(low, high)))
        return self[path]
