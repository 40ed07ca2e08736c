"""All runs of small systems, for the tests that compare greatest numbers with them."""

import random

from mostcalls.machine import play
from mostcalls.patterns import all_patterns
from mostcalls.policies import Policy
from mostcalls.systems import System
from samples import some_system


def all_runs(system, entry, most=1500):
    """the runs of all patterns of an entry, None if there are more than so many."""
    found = []
    for pattern in all_patterns(system, entry):
        if len(found) == most:
            return None
        found.append(play(system, pattern))
    return found


def small_systems(first, last, most=1500):
    """tuples (seed, system, entry, runs) of drawn systems; entries with too many patterns are left out."""
    for seed in range(first, last):
        rng = random.Random(seed * 7)
        system = some_system(seed, rng.choice((2, 3, 3, 4)), rng.choice((1, 2, 3)))
        for entry in system:
            runs = all_runs(system, entry, most)
            if runs is not None:
                yield seed, system, entry, runs


def crafted_systems():
    """small systems with policies of all kinds."""
    ways_to_try = ({}, {'tries': 2}, {'tries': 2, 'pauses': (1,)}, {'tries': 2, 'early': 1}, {'tries': 3, 'early': 1})
    number = 0
    for ending in (('go',), ('deadline',), ('stop', 0), ('stop', 1)):
        for lossy in (False, True):
            for fields in ways_to_try:
                number += 1
                inner = Policy('p', 1 + number % 2, ending=ending, lossy=lossy, **fields)
                outer = Policy('q', 1 + number % 3, ending=('go',) if number % 4 else ('stop', 1))
                block = (('run', 1, 3),) if number % 2 or lossy else (('run', 0, 2), ('risk',))
                middle = (('both', (('want', 'a', 'p'),), (('run', 0, 1),)),) if number % 3 == 0 else (('call', 'a', 'p'),)
                yield System([inner, outer], [('a', block), ('b', middle), ('c', (('want', 'b', 'q'),))])


def measures_of(system, seed=0):
    """each measure of a system, those of services also by faults."""
    rng = random.Random(seed)
    found = [('last',)]
    for kind in ('calls', 'work', 'nobody'):
        for name in system:
            found += [(kind, name), (kind, name, rng.randint(0, 3))]
    return found


def greatest(values, measure):
    """the greatest of what runs measured, None if there is none."""
    if len(measure) < 3:
        return max(values, default=None)
    columns = [[value[faults] for value in values if value[faults] is not None] for faults in range(measure[2] + 1)]
    told = tuple(max(column, default=None) for column in columns)
    return None if told[-1] is None else told


def greatest_by_tick(runs, how, measure):
    """the greatest numbers of the runs that end so, by the ticks of their ends."""
    found = {}
    for run in runs:
        if run.how == how:
            found.setdefault(run.end, []).append(run.measured(measure))
    found = {tick: greatest(values, measure) for tick, values in found.items()}
    return {tick: number for tick, number in found.items() if number is not None}
