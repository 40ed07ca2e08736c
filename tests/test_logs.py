import random
import unittest

from brute import crafted_systems, all_runs, small_systems
from helpers import VALUES, Awkward, Case
from mostcalls.errors import UnknownName
from mostcalls.logs import explained, judged, log_of
from mostcalls.machine import play
from mostcalls.patterns import Pattern
from mostcalls.policies import Policy
from mostcalls.systems import System
from mostcalls.texts import parse_system
from samples import Drawn, million_system, some_system


def spans_of(run):
    return [span[:5] for span in run.spans()]


def slow_judged(runs, log):
    """by the words of point 18, from all runs of an entry; the values of the log can be compared."""
    sets = {frozenset(spans_of(run)) for run in runs}
    if len(set(log)) == len(log) and frozenset(log) in sets:
        return None
    most = 0
    for spans in sets:
        number = 0
        while number < len(log) and log[number] in spans and log[number] not in log[:number]:
            number += 1
        most = max(most, number)
    return most


def damaged(rng, log, runs):
    """the log with some changes."""
    log = list(log)
    for _ in range(rng.choice((0, 1, 1, 1, 2, 3))):
        kind = rng.randrange(8)
        at = rng.randrange(len(log)) if log else 0
        if kind == 0 and log:
            del log[at]
        elif kind == 1:
            log.insert(rng.randint(0, len(log)), rng.choice(spans_of(rng.choice(runs))))
        elif kind == 2 and log:
            log.insert(rng.randint(0, len(log)), log[at])
        elif kind == 3 and log:
            to = rng.randrange(len(log))
            log[at], log[to] = log[to], log[at]
        elif kind == 4 and log:
            path, service, begin, end, how = log[at]
            shift = rng.choice(((0, 1), (1, 0), (1, 1), (0, -1), (-1, 0), (-1, -1)))
            log[at] = (path, service, begin + shift[0], end + shift[1], how)
        elif kind == 5 and log:
            log[at] = log[at][:4] + (rng.choice(('answered', 'failed', 'stopped')),)
        elif kind == 6 and log:
            log[at] = log[at][:1] + (rng.choice('abcx'),) + log[at][2:]
        elif kind == 7 and log:
            path = list(log[at][0]) or [0]
            path[rng.randrange(len(path))] += rng.choice((1, -1))
            log[at] = (tuple(path),) + log[at][1:]
    return log


def drawn_run(system, entry, seed):
    """the run of a pattern whose choices are drawn as they are met."""
    from test_whole import NoPatternExceedsTest
    pattern = NoPatternExceedsTest('test_short').pattern(system, entry, Drawn(random.Random(seed)))
    return play(system, pattern)


class LogOfTest(Case):
    def test_sorted_by_begin_then_by_path(self):
        for seed in range(30):
            system = some_system(seed, 4)
            for entry in system:
                run = drawn_run(system, entry, seed)
                self.same(log_of(run), sorted(spans_of(run), key=lambda span: (span[2], span[0])))

    def test_an_example(self):
        system = parse_system('policy p limit 2 tries 2 stop 1\nservice a\n  run 1 9\nend\nservice b\n  call a p\nend')
        run = play(system, Pattern('b', {(0, 0, 0): 5}))
        self.same(log_of(run), [((), 'b', 0, 3, 'answered'), ((0, 0), 'a', 0, 3, 'stopped'), ((0, 1), 'a', 2, 3, 'answered')])
        self.same(log_of(run=run), log_of(run))


class JudgedTest(Case):
    def check(self, system, entry, runs, log):
        wanted = slow_judged(runs, log)
        told = judged(system, entry, log)
        self.same(told, wanted)
        pattern = explained(system, entry, log)
        if wanted is not None:
            self.assertIsNone(pattern)
            return 1
        self.assertIsInstance(pattern, Pattern)
        self.assertEqual(pattern.entry, entry)
        self.same(sorted(spans_of(play(system, pattern))), sorted(log))
        return 0

    def test_beside_all_patterns(self):
        wrong = 0
        for seed, system, entry, runs in small_systems(0, 130, 300):
            rng = random.Random(seed)
            for _ in range(10):
                log = damaged(rng, log_of(rng.choice(runs)), runs)
                if rng.random() < 0.4:
                    rng.shuffle(log)
                wrong += self.check(system, entry, runs, log)
        self.assertGreater(wrong, 800)

    def test_policies_of_all_kinds(self):
        for number, system in enumerate(crafted_systems()):
            runs = all_runs(system, 'c', 400)
            rng = random.Random(number)
            for run in rng.sample(runs, min(8, len(runs))) if runs else []:
                self.check(system, 'c', runs, log_of(run))
                self.check(system, 'c', runs, log_of(run)[::-1])
                self.check(system, 'c', runs, damaged(rng, log_of(run), runs))
                self.check(system, 'c', runs, damaged(rng, log_of(run)[::-1], runs))

    def test_each_run_stands(self):
        for seed, system, entry, runs in small_systems(200, 215, 60):
            for run in runs:
                self.assertIsNone(judged(system, entry, log_of(run)))
                self.assertIsNone(judged(system, entry, spans_of(run)[::-1]))

    def test_logs_of_other_entries(self):
        wrong = 0
        for seed, system, entry, runs in small_systems(300, 340, 300):
            for other in system:
                if other != entry:
                    log = log_of(drawn_run(system, other, seed))
                    wrong += self.check(system, entry, runs, log)
        self.assertGreater(wrong, 40)

    def test_the_numbers(self):
        system = parse_system('policy p limit 2 tries 2 stop 1\nservice a\n  run 1 9\nend\nservice b\n  call a p\nend')
        entry, first, second = ((), 'b', 0, 3, 'answered'), ((0, 0), 'a', 0, 3, 'stopped'), ((0, 1), 'a', 2, 3, 'answered')
        for log, wanted in (([entry, first, second], None), ([second, first, entry], None), ([], 0), ([entry], 1),
                            ([entry, first], 2), ([first, entry], 2), ([entry, first, second, entry], 3),
                            ([entry, entry, first, second], 1), ([((), 'b', 0, 1, 'answered'), first, second], 1),
                            ([first, second, ((), 'b', 0, 1, 'answered')], 2), ([((), 'b', 1, 3, 'answered')], 0),
                            ([((), 'a', 0, 3, 'answered')], 0), ([entry, first, ((0, 2), 'a', 3, 4, 'answered')], 2),
                            ([entry, first, ((1, 0), 'a', 3, 4, 'answered')], 2), ([first, ((0, 0, 0), 'a', 0, 3, 'stopped')], 1),
                            ([((0, 1), 'a', 3, 3, 'answered')], 0), ([((), 'b', 0, 4, 'failed')], 1)):
            self.same(judged(system, 'b', log), wanted)

    def test_what_is_no_list(self):
        system = some_system(3)
        log = tuple(log_of(drawn_run(system, 'b', 1)))
        for value in VALUES + (log, {0: log}, iter(log)):
            if not isinstance(value, list):
                self.same(judged(system, 'b', value), -1)
                self.assertIsNone(explained(system, 'b', value))

    def test_elements_of_any_kind(self):
        for seed in range(6):
            system = some_system(seed, 3)
            log = log_of(drawn_run(system, 'c', seed))
            for value in VALUES + (list(log[0]), log[0][:4], log[0] + (None,), log[0][:4] + ('ended',), log[0][:4] + (None,),
                                   ([],) + log[0][1:], ((True,),) + log[0][1:], log[0][:2] + (False,) + log[0][3:],
                                   ((), 'c', 0, Awkward(), 'answered'), ((), 'c', -1, 0, 'answered'),
                                   ((Awkward(),), 'c', 0, 0, 'answered'), ((-1,), 'c', 0, 0, 'answered'),
                                   ((10 ** 29,), 'c', 0, 0, 'answered'), ((0,) * 300, 'c', 0, 0, 'answered'),
                                   ((), Awkward(), 0, 0, 'answered'), ((), 'c', 0, 10 ** 29, 'answered')):
                for place in {0, len(log) // 2, len(log)}:
                    bad = log[:place] + [value] + log[place:]
                    self.same(judged(system, 'c', bad), place)
                    self.assertIsNone(explained(system, 'c', bad))

    def test_the_entry_is_looked_at_first(self):
        system = some_system(3)
        for value in VALUES:
            if value != 'a' if isinstance(value, str) else True:
                self.raises(UnknownName, {'value': value}, judged, system, value, None)
                self.raises(UnknownName, {'value': value}, explained, system, value, [])
        self.raises(UnknownName, {'value': 'pa'}, judged, system, 'pa', [])

    def test_arguments_stay(self):
        system = some_system(3)
        log = log_of(drawn_run(system, 'c', 1))[::-1]
        before = list(log)
        judged(system, 'c', log)
        explained(system, 'c', log)
        self.assertEqual(log, before)

    def test_named_arguments(self):
        system = some_system(3)
        log = log_of(drawn_run(system, 'c', 1))
        self.assertIsNone(judged(log=log, entry='c', system=system))
        self.assertIsNotNone(explained(log=log, entry='c', system=system))


class ManyCallsTest(Case):
    """runs with too many patterns to try them one by one."""

    def large_runs(self, seeds):
        for seed in seeds:
            rng = random.Random(seed)
            system = some_system(seed, 6, rng.choice((4, 6)), short=seed % 2 == 0)
            entry = system.services()[-1]
            run = drawn_run(system, entry, seed)
            if 12 <= len(run) <= 300:
                yield rng, system, entry, run

    def test_drawn_runs(self):
        many = 0
        for rng, system, entry, run in self.large_runs(range(160)):
            log = log_of(run)
            many += len(log)
            for told in (log, rng.sample(log, len(log))):
                self.assertIsNone(judged(system, entry, told))
            pattern = explained(system, entry, log)
            self.same(log_of(play(system, pattern)), log)
            # Some of the spans can be had; perhaps there is a run that has no others.
            at = rng.randrange(len(log))
            for some in (log[:at] + log[at + 1:], log[:at], log[at:], log[at:][::-1]):
                self.assertIn(judged(system, entry, some), (None, len(some)))
            self.same(judged(system, entry, log[1:]), len(log) - 1)
            self.same(judged(system, entry, log + [log[at]]), len(log))
        self.assertGreater(many, 500)

    def test_moved_spans(self):
        """what is told of a moved log is right: these spans can be had together, and no more of them at once."""
        for rng, system, entry, run in self.large_runs(range(200, 280)):
            log = log_of(run)
            at = rng.randrange(len(log))
            path, service, begin, end, how = log[at]
            moved = log[:at] + [(path, service, begin, end + 1, how)] + log[at + 1:]
            number = judged(system, entry, moved)
            if number is None:
                self.same(log_of(play(system, explained(system, entry, moved))), sorted(moved, key=lambda span: span[2::-2]))
            else:
                self.assertGreaterEqual(number, at)
                self.assertIsNone(explained(system, entry, moved))

    def test_requests_that_are_too_large_for_patterns(self):
        """a few spans of a request that can cause more than a million calls."""
        system = million_system()
        for log, wanted in (([((), 'f', 0, 0, 'failed')], 1), ([((), 'f', 0, 20, 'failed')], 1), ([((), 'f', 0, 9999, 'failed')], 0),
                            ([((0, 0, 0, 1), 'e', 7, 30, 'answered')], 1), ([((0, 0, 0, 1), 'e', 8, 30, 'answered')], 0),
                            ([((0, 0, 0, 1), 'e', 7, 30, 'stopped')], 0), ([((0, 1, 0, 2), 'e', 11, 30, 'answered')], 1),
                            ([((0, 1, 0, 2), 'e', 11, 30, 'answered'), ((0, 1, 0, 2, 2, 0), 'd', 11, 40, 'answered')], 2),
                            ([((0, 1, 0, 2), 'e', 11, 30, 'answered'), ((0, 1, 0, 2, 2, 0), 'd', 31, 40, 'answered')], 1)):
            self.same(judged(system, 'f', log), wanted)
            self.assertIsNone(explained(system, 'f', log))

    def test_dozens_of_calls_by_hand(self):
        policy = Policy('p', 2, tries=3, ending=('stop', 1), lossy=True)
        early = Policy('q', 6, tries=3, early=2, ending=('deadline',))
        system = System([policy, early], [
            ('a', (('run', 0, 3), ('risk',))), ('b', (('want', 'a', 'p'), ('both', (('want', 'a', 'p'),), (('run', 1, 4),)))),
            ('c', (('maybe', (('want', 'b', 'q'),)), ('want', 'b', 'q'), ('want', 'b', 'p'))),
            ('d', (('want', 'c', 'q'), ('want', 'c', 'p'), ('want', 'c', 'q')))])
        most = 0
        for seed in range(6):
            run = drawn_run(system, 'd', seed)
            log = log_of(run)
            most = max(most, len(log))
            self.assertIsNone(judged(system, 'd', log))
            self.same(log_of(play(system, explained(system, 'd', log))), log)
            random.Random(seed).shuffle(log)
            self.assertIsNone(judged(system, 'd', log))
            self.assertIn(judged(system, 'd', log[1:]), (None, len(log) - 1))
        self.assertGreater(most, 36)


class WholeTest(Case):
    def test_other_names(self):
        from test_whole import renamed
        for seed, system, entry, runs in small_systems(400, 425, 200):
            rng = random.Random(seed)
            changed, names = renamed(system)
            log = damaged(rng, log_of(rng.choice(runs)), runs)
            told = [(path, names.get(service, service), begin, end, how) for path, service, begin, end, how in log]
            self.same(judged(changed, names[entry], told), judged(system, entry, log))

    def test_more_services_and_policies(self):
        for seed, system, entry, runs in small_systems(430, 450, 200):
            rng = random.Random(seed)
            policies = [Policy('more', 3)] + [system.policy(name) for name in system.policies()]
            rows = [('more', ())] + [(name, system[name]) for name in system]
            log = damaged(rng, log_of(rng.choice(runs)), runs)
            self.same(judged(System(policies, rows), entry, log), judged(system, entry, log))


if __name__ == '__main__':
    unittest.main()
