"""What point 3 promises over the whole program: nothing exceeds a greatest number, and what can only make it greater."""

import random
import unittest

from brute import measures_of
from helpers import Case
from mostcalls.counts import Counts
from mostcalls.errors import InvalidPart, TooLong
from mostcalls.machine import play
from mostcalls.papers import bound_paper, check_bound
from mostcalls.patterns import Pattern
from mostcalls.policies import Policy
from mostcalls.systems import System
from samples import Drawn, some_policy, some_system


def numbers(system, entry, measures):
    """the greatest numbers of an entry; tuples are lists of them, None in them less than all."""
    found = []
    for measure in measures:
        number = Counts(system, measure).greatest(entry)
        found += [-1 if told is None else told for told in (number if isinstance(number, tuple) else (number,))]
    return found


def replaced(block, change):
    """a block with other parts: change tells the parts that stand in place of each one."""
    parts = []
    for part in block:
        if part[0] in ('maybe', 'both'):
            part = (part[0],) + tuple(replaced(inner, change) for inner in part[1:])
        parts += change(part)
    return tuple(parts)


def with_blocks(system, change):
    """the system with other parts."""
    policies = [system.policy(name) for name in system.policies()]
    return System(policies, [(name, replaced(system[name], change)) for name in system])


def renamed(system):
    """the system with other names, and how they were called."""
    names = {name: name * 2 + 'x' for name in system}
    terms = {name: 'q' + name for name in system.policies()}
    policies = []
    for name in system.policies():
        policy = system.policy(name)
        fields = {'tries': policy.tries, 'early': policy.early, 'lossy': policy.lossy, 'ending': policy.ending}
        if policy.early is None:
            fields['pauses'] = policy.pauses
        policies.append(Policy(terms[name], policy.limit, **fields))

    def change(part):
        return [(part[0], names[part[1]], terms[part[2]])] if part[0] in ('call', 'want') else [part]
    return System(policies, [(names[name], replaced(system[name], change)) for name in system]), names


class NeverLessTest(Case):
    def grows(self, change, seeds=range(40), kinds=('calls', 'work', 'nobody')):
        """the greatest numbers of drawn systems are at most those of the changed ones; of some they are less."""
        greater = 0
        for seed in seeds:
            system = some_system(seed, 3)
            try:
                changed = change(system)
            except (TooLong, InvalidPart):
                continue
            measures = [('last',)] + [(kind, name) for kind in kinds for name in system]
            for entry in system:
                before, after = numbers(system, entry, measures), numbers(changed, entry, measures)
                for one, other, measure in zip(before, after, measures):
                    self.assertLessEqual(one, other, (seed, entry, measure))
                greater += before != after
        self.assertGreater(greater, 3)

    def test_runs_that_can_last_longer(self):
        def change(part):
            return [('run', part[1], min(20, part[2] + 2))] if part[0] == 'run' else [part]

        self.grows(lambda system: with_blocks(system, change))

    def test_one_risk_more(self):
        self.grows(lambda system: system.with_block('a', system['a'] + (('risk',),)))
        self.grows(lambda system: system.with_block('a', (('risk',),) + system['a']))

    def test_one_maybe_more(self):
        self.grows(lambda system: system.with_block('a', (('maybe', (('run', 1, 3), ('risk',))),) + system['a']))

    def test_parts_that_may_be_left_out(self):
        def changed(system):
            return system.with_block('b', tuple(('maybe', (part,)) if part[0] not in ('maybe', 'both') else part
                                                for part in system['b']))
        self.grows(changed, range(80))

    def test_lossy_policies(self):
        def changed(system):
            for name in system.policies():
                system = system.with_policy(system.policy(name).changed(lossy=True))
            return system
        self.grows(changed, range(80))

    def test_longer_delays_of_stop(self):
        def changed(system):
            for name in system.policies():
                ending = system.policy(name).ending
                if ending[0] == 'stop' and ending[1] < 20:
                    system = system.with_policy(system.policy(name).changed(ending=('stop', ending[1] + 1)))
            return system
        self.grows(changed, range(120))

    def test_go_in_place_of_stop(self):
        def changed(system):
            for name in system.policies():
                if system.policy(name).ending[0] == 'stop':
                    system = system.with_policy(system.policy(name).changed(ending=('go',)))
            return system
        self.grows(changed, range(80))


class NothingChangesTest(Case):
    def same_numbers(self, change, seeds=range(25)):
        for seed in seeds:
            system = some_system(seed, 3)
            changed, names = change(system)
            for measure in measures_of(system, seed):
                other = measure if measure == ('last',) else (measure[0], names[measure[1]]) + measure[2:]
                for entry in system:
                    counts, others = Counts(system, measure), Counts(changed, other)
                    self.same(others.greatest(names[entry]), counts.greatest(entry))
                    self.assertEqual(others.table(names[entry])(None), counts.table(entry)(None))
                    self.assertEqual(others.table(names[entry])(3), counts.table(entry)(3))

    def test_other_names(self):
        self.same_numbers(renamed)

    def test_unused_policies_and_services(self):
        def changed(system):
            policies = [Policy('unused', 3, lossy=True)] + [system.policy(name) for name in system.policies()]
            rows = [('unused', (('run', 0, 20), ('risk',)))] + [(name, system[name]) for name in system]
            return System(policies, rows), {name: name for name in system}
        self.same_numbers(changed)

    def test_exchanged_blocks(self):
        def change(part):
            return [('both', part[2], part[1])] if part[0] == 'both' else [part]
        self.same_numbers(lambda system: (with_blocks(system, change), {name: name for name in system}))

    def test_an_empty_block_beside(self):
        def changed(system):
            rows = []
            for name in system:
                parts = tuple(('both', (part,), ()) if part[0] not in ('maybe', 'both') else part for part in system[name])
                few = sum(str(parts).count(f"('{word}'") for word in ('run', 'risk', 'call', 'want', 'maybe', 'both')) < 13
                rows.append((name, parts if few else system[name]))
            policies = [system.policy(name) for name in system.policies()]
            return System(policies, rows), {name: name for name in system}
        self.same_numbers(changed)


class NoPatternExceedsTest(Case):
    """drawn patterns of drawn systems, also of large ones."""

    def check(self, system, entry, rng):
        draws = [Drawn(rng) for _ in range(4)]
        measures = measures_of(system, rng.random())
        counts = [Counts(system, measure) for measure in measures]
        for drawn in draws:
            run = play(system, self.pattern(system, entry, drawn))
            for measure, count in zip(measures, counts):
                number, most = run.measured(measure), count.greatest(entry)
                at_tick = count.number_at(entry, run.how, run.end)
                if len(measure) < 3:
                    self.assertLessEqual(number, most)
                    self.assertLessEqual(number, at_tick)
                    continue
                for one, other in zip(number, most):
                    self.assertTrue(one is None or one <= other)
                if number[-1] is not None:
                    for one, other in zip(number, at_tick):
                        self.assertTrue(one is None or one <= other)

    def pattern(self, system, entry, drawn):
        """a pattern with the choices of the paths that a request meets."""
        from reference import Reference

        class Choices(dict):
            def get(self, path, low):
                part = self.part(path)
                highs = part[2] if part and part[0] == 'run' else 1
                return drawn.draw(path, low, highs)

            def part(self, path):
                block, rest = system[entry], list(path)
                part = None
                while rest:
                    part = block[rest.pop(0)]
                    if part[0] == 'maybe':
                        block = part[1]
                    elif part[0] == 'both' and rest:
                        block = part[1 + rest.pop(0)]
                    elif part[0] in ('call', 'want') and rest:
                        rest.pop(0)
                        block = system[part[1]]
                        if not rest:
                            return ('lost',)
                return part
        machine = Reference(system, entry, Choices())
        return Pattern(entry, dict(machine.log.met))

    def test_short(self):
        for seed in range(30):
            system = some_system(seed + 5000, 4, 3)
            rng = random.Random(seed)
            for entry in system:
                self.check(system, entry, rng)

    def test_long(self):
        for seed in range(8):
            system = some_system(seed + 6000, 4, 3, short=False)
            self.check(system, system.services()[-1], random.Random(seed))

    def test_papers_of_larger_systems(self):
        for seed in range(8):
            system = some_system(seed + 7000, 4, 3, short=False)
            entry = system.services()[-1]
            for measure in (('calls', 'a'), ('work', 'b'), ('last',), ('calls', 'a', 2)):
                paper = bound_paper(system, entry, measure)
                number = Counts(system, measure).greatest(entry)
                self.same(check_bound(system, entry, measure, paper), number)
                pattern = Counts(system, measure).best(entry)
                told = play(system, pattern).measured(measure)
                self.assertEqual(told[-1] if len(measure) == 3 else told, number[-1] if len(measure) == 3 else number)


class LimitsTest(Case):
    def test_a_policy_of_any_kind(self):
        """a service that is called by each kind of policy, beside the machine with the best pattern."""
        for seed in range(60):
            rng = random.Random(seed)
            policy = some_policy(rng, 'p', False)
            system = System([policy], [('a', (('run', 0, 20), ('risk',), ('run', 2, 9))), ('b', (('call', 'a', 'p'),)),
                                       ('c', (('both', (('want', 'b', 'p'),), (('call', 'a', 'p'),)),))])
            for measure in (('calls', 'a'), ('work', 'a'), ('nobody', 'a'), ('last',), ('work', 'a', 2)):
                counts = Counts(system, measure)
                run = play(system, counts.best('c'))
                number = counts.greatest('c')
                told = run.measured(measure)
                self.assertEqual(told[-1] if len(measure) == 3 else told, number[-1] if len(measure) == 3 else number)


if __name__ == '__main__':
    unittest.main()
