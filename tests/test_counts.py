import unittest

from brute import all_runs, crafted_systems, greatest, greatest_by_tick, measures_of, small_systems
from helpers import VALUES, Case
from mostcalls.counts import Counts, greatest_calls
from mostcalls.errors import InvalidMeasure, InvalidNumber, UnknownName
from mostcalls.machine import play
from mostcalls.patterns import Pattern
from mostcalls.policies import Policy
from mostcalls.rows import Rows
from mostcalls.systems import System
from mostcalls.texts import parse_system
from samples import some_system

EXAMPLE = System([Policy('slow', 4, tries=3)], [('a', (('run', 3, 3), ('risk',))), ('b', (('call', 'a', 'slow'),)),
                                                ('c', (('call', 'b', 'slow'),))])


class ExampleTest(Case):
    def test_of_the_document(self):
        timed = EXAMPLE.with_policy(EXAMPLE.policy('slow').changed(ending=('deadline',)))
        self.same(greatest_calls(EXAMPLE, 'c'), {'a': 9, 'b': 3, 'c': 0})
        self.same(list(greatest_calls(EXAMPLE, 'c')), ['a', 'b', 'c'])
        self.same(Counts(timed, ('calls', 'a')).greatest('c'), 6)
        self.same(Counts(EXAMPLE, ('calls', 'a', 6)).greatest('c'), (1, 3, 5, 6, 7, 8, 9))

    def test_greatest_calls(self):
        self.assertEqual(greatest_calls(EXAMPLE, 'a'), {'a': 0, 'b': 0, 'c': 0})
        self.assertEqual(greatest_calls(entry='b', system=EXAMPLE), {'a': 3, 'b': 0, 'c': 0})
        greatest_calls(EXAMPLE, 'b')['a'] = 7
        self.assertEqual(greatest_calls(EXAMPLE, 'b')['a'], 3)
        for value in VALUES:
            if not (isinstance(value, str) and value == 'a'):
                self.raises(UnknownName, {'value': value}, greatest_calls, EXAMPLE, value)

    def test_by_hand(self):
        counts = Counts(EXAMPLE, ('work', 'a'))
        self.assertEqual([counts.ends('a', 'answered'), counts.ends('a', 'failed')], [[3], [3]])
        self.assertEqual(counts.ends('b', 'answered'), [3, 6, 9])
        self.assertEqual(counts.ends('b', 'failed'), [9])
        self.assertEqual([counts.number_at('b', 'answered', tick) for tick in (3, 6, 9, 4)], [3, 6, 9, None])
        # Each try of b is given up at 4, and goes on to 9.
        self.assertEqual(counts.ends('c', 'answered'), [3, 7, 11])
        self.assertEqual(counts.ends('c', 'failed'), [12])
        self.assertEqual(counts.greatest('c'), 27)
        self.assertEqual(Counts(EXAMPLE, ('last',)).greatest('c'), 17)
        self.assertEqual(Counts(EXAMPLE, ('nobody', 'a')).greatest('c'), 15)


class BruteForceTest(Case):
    """all numbers and patterns of small systems, beside all runs."""

    def check_best(self, system, counts, entry, how, tick, number, faults):
        """best_at, or best without a tick, reaches a number: with at most so many faults."""
        pattern = counts.best(entry, faults) if tick is None else counts.best_at(entry, how, tick, faults)
        if number is None:
            self.assertIsNone(pattern)
            return
        run = play(system, pattern)
        if tick is not None:
            self.assertEqual((run.how, run.end), (how, tick))
        if len(counts.measure) == 3:
            faults = counts.measure[2] if faults is None else faults
            self.assertLessEqual(run.faults, faults)
            self.assertEqual(run.measured(counts.measure)[faults], number)
        else:
            self.assertEqual(run.measured(counts.measure), number)

    def check(self, system, entry, runs, measure):
        counts = Counts(system, measure)
        all_faults = [None] + list(range(measure[2] + 1)) if len(measure) == 3 else [None]
        for how in ('answered', 'failed'):
            wanted = greatest_by_tick(runs, how, measure)
            self.assertEqual(counts.ends(entry, how), sorted(wanted))
            for tick in range(max(wanted, default=0) + 2):
                number = counts.number_at(entry, how, tick)
                self.assertEqual(number, wanted.get(tick))
                for faults in all_faults:
                    at_most = number
                    if number is not None and len(measure) == 3:
                        at_most = number[-1 if faults is None else faults]
                    self.check_best(system, counts, entry, how, tick, at_most, faults)
        number = greatest([run.measured(measure) for run in runs], measure)
        self.same(counts.greatest(entry), number)
        for faults in all_faults:
            at_most = number if len(measure) < 3 else number[-1 if faults is None else faults]
            self.check_best(system, counts, entry, None, None, at_most, faults)

    def test_small_systems(self):
        done = 0
        for seed, system, entry, runs in small_systems(0, 45, 400):
            done += 1
            for measure in measures_of(system, seed):
                with self.subTest((seed, entry, measure)):
                    self.check(system, entry, runs, measure)
        self.assertGreater(done, 80)

    def test_crafted_systems(self):
        done = 0
        for system in crafted_systems():
            for entry in 'bc':
                runs = all_runs(system, entry, 3000)
                if runs is not None:
                    done += 1
                    for measure in (('last',), ('calls', 'a', 1), ('work', 'a'), ('work', 'a', 2), ('nobody', 'a', 2)):
                        self.check(system, entry, runs, measure)
        self.assertGreater(done, 60)

    def test_tables_tell_the_same(self):
        for seed in range(30):
            system = some_system(seed)
            for measure in measures_of(system, seed):
                counts = Counts(system, measure)
                for name in system:
                    rows = counts.table(name)(None)
                    self.assertIsInstance(rows, Rows)
                    self.assertEqual(sorted(rows.answers), counts.ends(name, 'answered'))
                    self.assertEqual(sorted(rows.fails), counts.ends(name, 'failed'))
                    for tick, number in rows.answers.items():
                        self.same(counts.number_at(name, 'answered', tick), number)
                    for tick, number in rows.fails.items():
                        self.same(counts.number_at(name, 'failed', tick), number)
                    self.same(rows.greatest(), counts.greatest(name))
                    if len(measure) == 3:
                        for number in list(rows.answers.values()) + list(rows.stops.values()):
                            self.assertEqual(len(number), measure[2] + 1)
                            self.assertIsNotNone(number[-1])

    def test_greatest_calls(self):
        for seed in range(40):
            system = some_system(seed, 4)
            for entry in system:
                told = greatest_calls(system, entry)
                self.assertEqual(list(told), system.services())
                for name in system:
                    self.assertEqual(told[name], Counts(system, ('calls', name)).greatest(entry))

    def test_faults_grow_to_the_greatest_number(self):
        for seed in range(40):
            system = some_system(seed)
            for name in system:
                for kind in ('calls', 'work', 'nobody'):
                    told = Counts(system, (kind, 'a', 6)).greatest(name)
                    self.assertEqual(list(told), sorted(told))
                    self.assertLessEqual(told[-1], Counts(system, (kind, 'a')).greatest(name))
                    self.assertEqual(told[:3], Counts(system, (kind, 'a', 2)).greatest(name))


class StoppedTest(Case):
    """tables for ticks left, beside a caller that stops the block at them."""

    def test_ticks_left(self):
        for seed in range(40):
            system = some_system(seed)
            for left in (1, 2, 3, 5):
                policy = Policy('zz', left, ending=('deadline',))
                policies = [system.policy(name) for name in system.policies()] + [policy]
                rows = [(name, system[name]) for name in system] + [('zz', (('call', system.services()[-1], 'zz'),))]
                more = System(policies, rows)
                entry = system.services()[-1]
                for measure in (('calls', 'a'), ('work', 'a'), ('last',), ('calls', 'a', 1)):
                    counts = Counts(more, measure)
                    rows = counts.table(entry)(left)
                    called = counts.table('zz')(None)
                    if measure[0] == 'calls' and entry == 'a':
                        continue
                    self.assertLessEqual(set(rows.answers) | set(rows.fails) | set(rows.stops), set(range(left + 1)))
                    self.assertEqual(rows.answers, called.answers)
                    fails = dict(rows.fails)
                    if left in rows.stops:
                        fails[left] = rows.stops[left]
                    self.assertEqual(sorted(fails), sorted(called.fails))
                    for tick in called.fails:
                        both = [rows.fails.get(tick)] + ([rows.stops.get(tick)] if tick == left else [])
                        both = [number for number in both if number is not None]
                        self.assertEqual(called.fails[tick], elementwise(both))


def elementwise(numbers):
    """the tuple of the greatest ones."""
    if not isinstance(numbers[0], tuple):
        return max(numbers)
    return tuple(max((number[place] for number in numbers if number[place] is not None), default=None)
                 for place in range(len(numbers[0])))


class ValuesTest(Case):
    def setUp(self):
        self.counts = Counts(EXAMPLE, ('calls', 'a'))
        self.by_faults = Counts(EXAMPLE, ('calls', 'a', 2))

    def test_measure(self):
        for measure in (('last',), ('calls', 'c'), ('work', 'b'), ('nobody', 'a'), ('nobody', 'a', 0), ('calls', 'b', 6)):
            self.same(Counts(system=EXAMPLE, measure=measure).measure, measure)

    def test_wrong_measures(self):
        wrong = [('calls',), ('calls', 'd'), ('calls', 'a', 7), ('calls', 'a', -1), ('calls', 'a', True), ('last', 'a'),
                 ('last', 1), ('calls', 'a', None), ('calls', 'a', 1, 1), ['calls', 'a'], ('answer',), ('called', 'a'),
                 ('calls', ['a']), 'last', ('last', 'a', 2), ((), 'a')]
        for value in list(VALUES) + wrong:
            self.raises(InvalidMeasure, {'value': value}, Counts, EXAMPLE, value)

    def test_unknown_names(self):
        for value in VALUES:
            if isinstance(value, str) and value == 'a':
                continue
            for counts in (self.counts, self.by_faults):
                self.raises(UnknownName, {'value': value}, counts.table, value)
                self.raises(UnknownName, {'value': value}, counts.ends, value, value)
                self.raises(UnknownName, {'value': value}, counts.number_at, value, value, value)
                self.raises(UnknownName, {'value': value}, counts.greatest, value)
                self.raises(UnknownName, {'value': value}, counts.best, value, value)
                self.raises(UnknownName, {'value': value}, counts.best_at, value, value, value, value)

    def test_other_values_of_how_and_tick(self):
        for value in VALUES:
            self.same(self.counts.ends('b', value), [])
            self.assertIsNone(self.counts.number_at('b', value, 3))
            self.assertIsNone(self.counts.best_at('b', value, 3))
            if not (value.__class__ is int and value == 3):
                self.assertIsNone(self.counts.number_at('b', 'answered', value))
                self.assertIsNone(self.counts.best_at('b', 'answered', value))
        self.same(self.counts.ends('b', 'stopped'), [])
        self.assertIsNone(self.counts.number_at('b', 'stopped', 3))

    def test_wrong_faults(self):
        for value in VALUES:
            if value is None:
                continue
            self.raises(InvalidNumber, {'value': value}, self.counts.best, 'b', value)
            self.raises(InvalidNumber, {'value': value}, self.counts.best_at, 'b', 'answered', 3, value)
            self.raises(InvalidNumber, {'value': value}, self.counts.best_at, 'b', value, value, value)
            if value.__class__ is int and 0 <= value <= 2:
                continue
            self.raises(InvalidNumber, {'value': value}, self.by_faults.best, 'b', value)
            self.raises(InvalidNumber, {'value': value}, self.by_faults.best_at, 'b', value, value, value)
        self.raises(InvalidNumber, {'value': 3}, self.by_faults.best, 'b', faults=3)

    def test_none_where_there_is_none(self):
        counts = Counts(EXAMPLE, ('calls', 'a', 2))
        self.assertEqual(counts.ends('b', 'failed'), [])
        self.assertIsNone(counts.number_at('b', 'failed', 9))
        self.assertIsNone(counts.best_at('b', 'failed', 9))
        self.assertEqual(Counts(EXAMPLE, ('calls', 'a', 3)).number_at('b', 'failed', 9), (None, None, None, 3))
        self.assertIsNone(Counts(EXAMPLE, ('calls', 'a', 3)).best_at('b', 'failed', 9, 2))
        self.assertEqual(len(play(EXAMPLE, Counts(EXAMPLE, ('calls', 'a', 3)).best_at('b', 'failed', 9, 3))), 4)

    def test_rows_without_an_end(self):
        for measure in (('calls', 'a'), ('calls', 'a', 0), ('work', 'a', 3)):
            rows = Counts(EXAMPLE, measure).table('a')(1)
            self.assertEqual((rows.answers, rows.fails, sorted(rows.stops)), ({}, {}, [0, 1]))
            self.assertIsNone(rows.greatest())

    def test_names_of_arguments(self):
        counts = self.by_faults
        self.assertEqual(counts.ends(how='answered', name='b'), [3, 6, 9])
        self.assertEqual(counts.number_at(tick=6, how='answered', name='b'), (None, 2, 2))
        self.assertEqual(counts.greatest(name='b'), (1, 2, 3))
        self.assertEqual(play(EXAMPLE, counts.best(faults=1, name='b')).measured(('calls', 'a')), 2)
        self.assertEqual(play(EXAMPLE, counts.best_at(faults=2, tick=9, how='answered', name='b')).spans()[0][3], 9)
        self.assertEqual(counts.table(name='a')(None), counts.table('a')())

    def test_told_values_are_new(self):
        self.counts.ends('b', 'answered').append(5)
        self.assertEqual(self.counts.ends('b', 'answered'), [3, 6, 9])
        self.counts.table('b')(None).answers.clear()
        self.assertEqual(len(self.counts.table('b')(None).answers), 3)

    def test_called_again(self):
        for name in EXAMPLE:
            pattern = self.counts.best(name)
            self.assertIsInstance(pattern, Pattern)
            self.assertEqual(pattern.entry, name)
            self.assertEqual(Counts(EXAMPLE, ('calls', 'a')).best(name), pattern)


class LargeTest(Case):
    """limits, runs and tries as large as the document allows, with numbers that can be reckoned by hand."""

    def system(self, policy, parts, services=6):
        blocks = [('a', (('run', 0, 20),) * 12)]
        for number in range(1, services):
            blocks.append(('abcdef'[number], (('call', 'abcdef'[number - 1], policy.name),) * parts))
        return System([policy], blocks)

    def test_stars(self):
        system = self.system(Policy('p', 20, tries=3, pauses=(8, 8), lossy=True, ending=('go',)), 5)
        # Two tries of each call are given up and go on to the end. The third one of the last call, too; those of the
        # other four are answered within the limit of 20, so that each of their calls is answered at its first try.
        calls = {'e': 15, 'f': 0}
        for above, name, quick in (('e', 'd', 5), ('d', 'c', 25), ('c', 'b', 125), ('b', 'a', 625)):
            calls[name] = 11 * calls[above] + 4 * quick
        self.assertEqual(greatest_calls(system, 'f'), calls)
        self.assertEqual(Counts(system, ('last',)).greatest('b'), 4 * 76 + 56 + 240)
        told = Counts(system, ('calls', 'a', 6)).greatest('f')
        self.assertEqual(told[0], 5 ** 5)
        # One lost answer of a makes each caller around it wait too long: each is tried once more.
        self.assertEqual(told[1], 5 ** 5 + 1 + 5 + 25 + 125 + 625)

    def test_without_a_way_to_fail(self):
        # A try of a can be given up, but not fail; with a limit of 20 and a pause of 8 three tries last 76 ticks.
        system = self.system(Policy('p', 20, tries=3, pauses=(8, 8)), 5, 2)
        self.assertEqual(greatest_calls(system, 'b'), {'a': 15, 'b': 0})
        self.assertEqual(Counts(system, ('work', 'a')).greatest('b'), 11 * 240 + 4 * 20)
        self.assertEqual(Counts(system, ('nobody', 'a')).greatest('b'), 11 * 220)
        self.assertEqual(Counts(system, ('last',)).greatest('b'), 4 * 76 + 56 + 240)
        self.assertEqual(max(Counts(system, ('last',)).ends('b', 'answered')), 380)

    def test_all_endings_in_time(self):
        for ending in (('go',), ('deadline',), ('stop', 20)):
            for policy, parts in ((Policy('p', 20, tries=3, pauses=(0, 8), lossy=True, ending=ending), 5),
                                  (Policy('p', 20, tries=3, early=7, ending=ending), 10)):
                system = self.system(policy, parts)
                for measure in (('calls', 'a'), ('last',), ('calls', 'a', 6)):
                    self.assertIsNotNone(Counts(system, measure).greatest('f'))
                small = self.system(policy, 2, 3)
                for measure in (('work', 'a'), ('nobody', 'a'), ('last',)):
                    counts = Counts(small, measure)
                    run = play(small, counts.best('c'))
                    self.assertEqual(run.measured(measure), counts.greatest('c'))


class WorkForNobodyTest(Case):
    def test_of_the_machine_example(self):
        system = parse_system('policy p limit 2 tries 2 stop 1\nservice a\n  run 1 9\nend\nservice b\n  call a p\nend')
        counts = Counts(system, ('nobody', 'a'))
        self.assertEqual(counts.greatest('b'), 2)
        self.assertEqual(counts.greatest('a'), 0)
        self.assertEqual(play(system, counts.best('b')).measured(('nobody', 'a')), 2)

    def test_unwanted_through_the_caller(self):
        # b goes on for nobody from tick 1; all that it calls then is for nobody, too.
        system = parse_system('policy p limit 1 tries 1 go\npolicy q limit 9 tries 1 go\nservice a\n  run 2 3\nend\n'
                              'service b\n  run 0 4\n  call a q\n  call a q\nend\nservice c\n  call b p\nend')
        self.assertEqual(Counts(system, ('nobody', 'a')).greatest('c'), 6)
        self.assertEqual(Counts(system, ('nobody', 'b')).greatest('c'), 3)
        self.assertEqual(Counts(system, ('nobody', 'a', 0)).greatest('c'), (3,))


if __name__ == '__main__':
    unittest.main()
