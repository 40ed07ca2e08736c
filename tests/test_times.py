import random
import unittest

from brute import small_systems
from helpers import VALUES, Case
from mostcalls.blocks import parts_in_order
from mostcalls.counts import Counts
from mostcalls.errors import InvalidMeasure, TooLong, UnknownName
from mostcalls.machine import play
from mostcalls.policies import Policy
from mostcalls.systems import System
from mostcalls.texts import parse_system
from mostcalls.times import answer_times, fail_times, hopeless, inversions, last_tick, latest, slowest
from samples import some_system

EXAMPLE = System([Policy('inner', 2, tries=3, ending=('stop', 0)), Policy('outer', 6, ending=('stop', 0))],
                 [('a', (('run', 0, 20),)), ('b', (('call', 'a', 'inner'),)), ('c', (('call', 'b', 'outer'),))])


def least_and_longest(ticks):
    return (min(ticks), max(ticks)) if ticks else None


class TimesTest(Case):
    def test_of_the_document(self):
        self.same(inversions(EXAMPLE, 'c', ('calls', 'a'), 'inner'), [3, 6])
        self.same(hopeless(EXAMPLE), [])

    def test_by_hand(self):
        self.same(answer_times(EXAMPLE, 'a'), (0, 20))
        self.same(fail_times(EXAMPLE, 'a'), None)
        self.same(answer_times(EXAMPLE, 'b'), (0, 6))
        self.same(fail_times(EXAMPLE, 'b'), (6, 6))
        self.same(last_tick(EXAMPLE, 'b'), 6)
        self.same(last_tick(EXAMPLE, 'a'), 20)
        silent = parse_system('policy p limit 1 tries 1 go\nservice a\n  run 2 5\nend\nservice b\n  call a p\nend')
        self.same(answer_times(silent, 'b'), None)
        self.same(fail_times(silent, 'b'), (1, 1))
        self.same(last_tick(silent, 'b'), 5)
        self.assertIsNone(slowest(silent, 'b'))
        self.assertEqual(play(silent, latest(silent, 'b')).last, 5)

    def test_beside_all_runs(self):
        done = 0
        for seed, system, entry, runs in small_systems(300, 380, 600):
            done += 1
            answers = [run.end for run in runs if run.how == 'answered']
            fails = [run.end for run in runs if run.how == 'failed']
            self.same(answer_times(system, entry), least_and_longest(answers))
            self.same(fail_times(system, entry), least_and_longest(fails))
            self.same(last_tick(system, entry), max(run.last for run in runs))
            self.assertEqual(play(system, latest(system, entry)).last, last_tick(system, entry))
            if answers:
                run = play(system, slowest(system, entry))
                self.assertEqual((run.how, run.end), ('answered', max(answers)))
            else:
                self.assertIsNone(slowest(system, entry))
        self.assertGreater(done, 150)

    def test_a_caller_of_one_try(self):
        for seed in range(60):
            system = some_system(seed)
            called = system.services()[-1]
            answers = Counts(system, ('last',)).ends(called, 'answered')
            fails = Counts(system, ('last',)).ends(called, 'failed')
            for limit in (1, 2, 4, 7, 20):
                policies = [system.policy(name) for name in system.policies()] + [Policy('caller', limit)]
                rows = [(name, system[name]) for name in system] + [('caller', (('call', called, 'caller'),))]
                more = System(policies, rows)
                counts = Counts(more, ('last',))
                self.assertEqual(counts.ends('caller', 'answered'), [tick for tick in answers if tick <= limit])
                wanted = {tick for tick in fails if tick <= limit}
                if any(tick > limit for tick in answers + fails):
                    wanted.add(limit)
                self.assertEqual(counts.ends('caller', 'failed'), sorted(wanted))

    def test_names(self):
        for call in (answer_times, fail_times, last_tick, slowest, latest):
            self.assertEqual(call(entry='b', system=EXAMPLE), call(EXAMPLE, 'b'))
            for value in VALUES:
                if not (isinstance(value, str) and value == 'a'):
                    self.raises(UnknownName, {'value': value}, call, EXAMPLE, value)
        self.assertEqual(hopeless(system=EXAMPLE), [])
        self.assertEqual(inversions(policy='inner', measure=('calls', 'a'), entry='c', system=EXAMPLE), [3, 6])


class HopelessTest(Case):
    def test_places(self):
        system = parse_system('policy short limit 2 tries 3 pauses 8 8 go\npolicy long limit 4 tries 1 lossy deadline\n'
                              'service a\n  run 3 4\nend\nservice b\n  risk\n  both\n    maybe\n      call a short\n    end\n'
                              '    call a long\n  beside\n    want a short\n  end\n  call a short\nend\n'
                              'service c\n  call b long\n  want a long\nend')
        self.same(hopeless(system), [('b', 3), ('b', 5), ('b', 6), ('c', 0)])

    def test_beside_all_runs(self):
        for seed in range(60):
            system = some_system(seed, 3)
            least = {name: (answer_times(system, name) or (1000,))[0] for name in system}
            wanted = [(name, place) for name in system for place, (part, _) in enumerate(parts_in_order(system[name]))
                      if part[0] in ('call', 'want') and system.policy(part[2]).limit < least[part[1]]]
            self.same(hopeless(system), wanted)

    def test_a_limit_that_is_just_enough(self):
        text = 'policy p limit {} tries 1 go\nservice a\n  run {} 9\nend\nservice b\n  maybe\n    call a p\n  end\nend'
        for limit in (1, 4, 9):
            self.assertEqual(hopeless(parse_system(text.format(limit, limit))), [])
            if limit < 9:
                self.assertEqual(hopeless(parse_system(text.format(limit, limit + 1))), [('b', 1)])


class InversionsTest(Case):
    def check(self, system, entry, measure, policy):
        numbers = []
        for limit in range(1, 21):
            try:
                changed = system.with_policy(system.policy(policy).changed(limit=limit))
                numbers.append(Counts(changed, measure).greatest(entry))
            except TooLong:
                numbers.append(None)
        wanted = [limit for limit in range(1, 20) if numbers[limit - 1] is not None and numbers[limit] is not None
                  and numbers[limit - 1] > numbers[limit]]
        self.same(inversions(system, entry, measure, policy), wanted)
        return len(wanted)

    def test_drawn(self):
        found = 0
        for seed in range(14):
            system = some_system(seed, 3)
            rng = random.Random(seed)
            entry = system.services()[-1]
            for measure in (('calls', 'a'), ('work', 'a'), ('last',), ('nobody', 'b')):
                found += self.check(system, entry, measure, rng.choice(system.policies()))
        self.assertGreater(found, 0)

    def test_too_long(self):
        policy = Policy('p', 9, tries=3)
        system = System([policy], [('a', (('run', 0, 20),)), ('b', (('call', 'a', 'p'),) * 12)])
        # 12 calls of 3 tries each last 36 times the limit: 400 is between 11 and 12 of them.
        self.check(system, 'b', ('calls', 'a'), 'p')
        self.assertEqual(inversions(system, 'a', ('calls', 'a'), 'p'), [])
        stopped = System([policy.changed(ending=('stop', 0)), Policy('q', 20, ending=('stop', 0))],
                         [('a', (('run', 0, 20),)), ('b', (('call', 'a', 'p'),) * 12), ('c', (('call', 'b', 'q'),))])
        told = inversions(stopped, 'c', ('calls', 'a'), 'p')
        self.assertLessEqual(max(told), 10)
        self.check(stopped, 'c', ('calls', 'a'), 'p')

    def test_errors_in_order(self):
        for value in VALUES:
            if not (isinstance(value, str) and value == 'a'):
                self.raises(UnknownName, {'value': value}, inversions, EXAMPLE, value, value, value)
            self.raises(InvalidMeasure, {'value': value}, inversions, EXAMPLE, 'c', value, value)
            self.raises(UnknownName, {'value': value}, inversions, EXAMPLE, 'c', ('last',), value)
        for measure in (('calls', 'a', 0), ('work', 'b', 6), ('nobody', 'a', 1), ('calls', 'inner'), ('answer',)):
            self.raises(InvalidMeasure, {'value': measure}, inversions, EXAMPLE, 'c', measure, 'none')


if __name__ == '__main__':
    unittest.main()
