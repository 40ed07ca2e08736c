"""What point 3 promises, (a) to (j), on drawn systems that are wider, and on one of the greatest size."""

import random
import unittest

from helpers import Case
from mostcalls.changes import change_paper, changed_system, check_change, least_change
from mostcalls.console import Console
from mostcalls.counts import Counts
from mostcalls.dossiers import check_dossier, dossier
from mostcalls.edits import Edits
from mostcalls.errors import InvalidPolicy, InvalidPart, TooLong
from mostcalls.journals import recover, write_journal
from mostcalls.lanes import Lane
from mostcalls.lines import Line, fate
from mostcalls.logs import explained, judged, log_of
from mostcalls.longrun import check_ring, greatest_mean, ring_paper, ring_patterns
from mostcalls.machine import play
from mostcalls.papers import bound_paper, check_bound
from mostcalls.patterns import Pattern
from mostcalls.policies import Policy
from mostcalls.printing import format_system
from mostcalls.questions import ask
from mostcalls.shelves import Shelf, read_shelf
from mostcalls.systems import System
from mostcalls.tables import Table, empty_table, risk_table, run_table
from mostcalls.texts import parse_system
from mostcalls.times import answer_times, fail_times, hopeless, inversions, last_tick, latest, slowest
from mostcalls.tries import call_table, want_table
from mostcalls.values import is_value, read_value, write_value
from samples import NAMES, some_block, some_policy, some_system
from test_changes import some_offers
from test_edits import some_deed
from test_logs import drawn_run


def wide_system(seed, short=True):
    """six services and up to eight policies with names of all lengths."""
    rng = random.Random(seed)
    while True:
        policies = [some_policy(rng, 'pqrstuvw'[number] * rng.randint(1, 8), short) for number in range(rng.randint(3, 8))]
        rows = []
        for number in range(6):
            ahead = [name for name, _ in rows]
            rows.append((NAMES[number] * rng.randint(1, 8), some_block(rng, ahead, [policy.name for policy in policies], 0, short, 3)))
        try:
            return System(policies, rows)
        except (TooLong, InvalidPart):
            pass


def greatest_system():
    """as many policies, services, parts and ticks as there can be, and the longest names."""
    endings = (('go',), ('deadline',), ('stop', 20), ('stop', 0))
    policies = [Policy('policy' + 'ab'[number // 4] + 'abcd'[number % 4], (3, 4, 2, 5, 20, 3, 2, 1)[number], tries=3,
                       ending=endings[number % 4], lossy=number % 2 == 0,
                       **({'early': 1 + number} if number < 3 else {'pauses': (8, number)})) for number in range(8)]
    rows = [('servicea', (('run', 0, 20),) * 5 + (('risk',), ('maybe', (('run', 20, 20), ('both', (('run', 0, 20),), ())))) + (('run', 0, 20),) * 2)]
    for number in range(1, 6):
        last, first = rows[-1][0], 'servicea'
        names = [policy.name for policy in policies]
        rows.append(('service' + 'abcdef'[number], (
            ('want', last, names[number]), ('both', (('want', last, names[7]), ('risk',)), (('maybe', (('call', first, names[6]),)), ('run', 0, 1))),
            ('maybe', (('want', first, names[2]),)), ('run', 0, 2), ('call', last, names[number + 1]), ('run', 1, 1))))
    return System(policies, rows)


def measures(system):
    return [('last',)] + [(kind, name) for kind in ('calls', 'work', 'nobody') for name in system]


class PromisesTest(Case):
    def test_a_the_greatest_is_reached_and_not_exceeded(self):
        for seed in range(12):
            system = wide_system(seed)
            entry = system.services()[-1]
            runs = [drawn_run(system, entry, seed * 10 + number) for number in range(5)]
            for measure in measures(system) + [(kind, system.services()[0], 6) for kind in ('calls', 'work', 'nobody')]:
                counts = Counts(system, measure)
                number = counts.greatest(entry)
                if len(measure) < 3:
                    self.same(play(system, counts.best(entry)).measured(measure), number)
                    for run in runs:
                        self.assertLessEqual(run.measured(measure), number)
                    continue
                for faults in range(7):
                    pattern = counts.best(entry, faults)
                    self.assertIs(pattern is None, number[faults] is None)
                    if pattern is not None:
                        run = play(system, pattern)
                        self.assertLessEqual(run.faults, faults)
                        self.same(run.measured(measure[:2]), number[faults])
                for run in runs:
                    if run.faults <= 6:
                        self.assertLessEqual(run.measured(measure[:2]), number[run.faults])

    def test_b_papers(self):
        for seed in range(12, 24):
            system = wide_system(seed)
            entry = system.services()[-1]
            for measure in measures(system)[::3] + [('work', system.services()[1], 3)]:
                paper = bound_paper(system, entry, measure)
                number = Counts(system, measure).greatest(entry)
                self.same(check_bound(system, entry, measure, paper), number)
                rng = random.Random(seed)
                at = rng.randrange(len(paper))
                told = check_bound(system, entry, measure, paper[:at] + paper[at + 1:])
                self.assertTrue(told is None or told == number)

    def test_c_tables_of_parts(self):
        """the table of a service is that of its parts, for calls and work, put together."""
        for seed in range(24, 44):
            system = some_system(seed, 3)
            for measure in (('calls', 'a'), ('work', 'a'), ('work', 'c')):
                counts = Counts(system, measure)
                for name in system:
                    table = self.table_of(system, counts, measure, name, system[name])
                    for left in (None, 0, 1, 2, 5, 9):
                        self.assertEqual(counts.table(name)(left), table(left))

    def table_of(self, system, counts, measure, name, block):
        table = empty_table()
        for part in block:
            if part[0] == 'run':
                told = run_table(part[1], part[2], 1 if measure == ('work', name) else 0)
            elif part[0] == 'risk':
                told = risk_table()
            elif part[0] in ('call', 'want'):
                told = call_table(system.policy(part[2]), counts.table(part[1]), 1 if measure == ('calls', part[1]) else 0)
                told = want_table(told) if part[0] == 'want' else told
            elif part[0] == 'maybe':
                told = empty_table() | self.table_of(system, counts, measure, name, part[1])
            else:
                told = self.table_of(system, counts, measure, name, part[1]) & self.table_of(system, counts, measure, name, part[2])
            self.assertIsInstance(told, Table)
            table = table >> told
        return table

    def test_d_times(self):
        for seed in range(44, 60):
            system = wide_system(seed)
            for entry in system.services()[-2:]:
                counts = Counts(system, ('last',))
                for told, how in ((answer_times(system, entry), 'answered'), (fail_times(system, entry), 'failed')):
                    ticks = counts.ends(entry, how)
                    self.same(told, (ticks[0], ticks[-1]) if ticks else None)
                    for tick in ticks:
                        run = play(system, counts.best_at(entry, how, tick))
                        self.same((run.how, run.end), (how, tick))
                for number in range(4):
                    run = drawn_run(system, entry, seed * 7 + number)
                    self.assertIn(run.end, counts.ends(entry, run.how))
                    self.assertLessEqual(run.last, last_tick(system, entry))
                self.same(play(system, latest(system, entry)).last, last_tick(system, entry))
                if answer_times(system, entry) is not None:
                    self.same(play(system, slowest(system, entry)).end, answer_times(system, entry)[1])
            self.same(sorted(hopeless(system), key=lambda row: system.services().index(row[0])), hopeless(system))
            self.assertEqual(inversions(system, entry, ('calls', system.services()[0]), system.policies()[0]),
                             [limit for limit in range(1, 20) if self.is_inverted(system, entry, system.policies()[0], limit)])

    def is_inverted(self, system, entry, name, limit):
        numbers = []
        for told in (limit, limit + 1):
            try:
                changed = system.with_policy(system.policy(name).changed(limit=told))
            except TooLong:
                return False
            numbers.append(Counts(changed, ('calls', system.services()[0])).greatest(entry))
        return numbers[0] > numbers[1]

    def test_e_lanes(self):
        for seed in range(60, 72):
            rng = random.Random(seed)
            policy = Policy('lane', rng.randint(1, 9), tries=rng.randint(1, 3), ending=rng.choice((('go',), ('deadline',), ('stop', 3))))
            system = some_system(seed, 4)
            policies = [system.policy(name) for name in system.policies()] + [policy]
            system = System(policies, [(name, system[name]) for name in system] + [('entry', (('call', 'd', 'lane'),))])
            lane = Lane(system, 'entry', gap=(0, rng.randint(0, 4)), budget=rng.choice((None, (1, 2, 2))), breaker=rng.choice((None, (2, 5))))
            for measure in (('calls', 'd'), ('work', 'a')):
                paper = ring_paper(lane, measure)
                self.same(check_ring(lane, measure, paper), greatest_mean(lane, measure))
                state, total = lane.first(), 0
                for place, (pattern, gap) in enumerate(ring_patterns(lane, measure, paper)):
                    step, state, run = lane.request(state, pattern, gap)
                    if place >= len(paper[1]):
                        total += run.measured(measure) if run else 0
                mean = paper[0]
                self.assertEqual(total * mean[1], mean[0] * len(paper[2]))

    def test_f_bursts(self):
        line = Line(((2, 3, 2), (1, 2, 3)), gap=3, limit=6, tries=2, pause=2)
        for burst in range(0, 20, 4):
            told = fate(line, burst)
            states = [row[0] for row in line.run(burst, 300)]
            plain = [row[0] for row in line.run(0, 300)]
            if told[0] == 'out':
                self.assertEqual(states[told[1]], plain[told[1]])
                self.assertNotIn(True, [states[tick] == plain[tick] for tick in range(told[1])])
            else:
                _, tick, length = told
                self.assertEqual((states[tick], plain[tick]), (states[tick + length], plain[tick + length]))

    def test_g_least_changes(self):
        many = 0
        for seed in range(72, 90):
            rng = random.Random(seed)
            system = wide_system(seed)
            offers = some_offers(rng, system, 6)
            entry = system.services()[-1]
            wishes = [(measure, entry, Counts(system, measure).greatest(entry) * 2 // 3) for measure in rng.sample(measures(system), 2)]
            told = least_change(system, offers, wishes)
            paper = change_paper(system, offers, wishes)
            if told is None:
                self.assertIsNone(paper)
                continue
            many += 1
            self.same(check_change(system, offers, wishes, paper), told[1])
            changed = changed_system(system, offers, told[1])
            for measure, _, most in wishes:
                self.assertLessEqual(Counts(changed, measure).greatest(entry), most)
        self.assertGreater(many, 3)

    def test_h_logs_and_journals(self):
        for seed in range(90, 110):
            rng = random.Random(seed)
            system = wide_system(seed)
            entry = system.services()[-1]
            log = log_of(drawn_run(system, entry, seed))
            self.assertIsNone(judged(system, entry, log))
            self.same(log_of(play(system, explained(system, entry, log[::-1]))), log)
            edits = Edits(system)
            for _ in range(30):
                kind, told = some_deed(rng, edits.system)
                try:
                    getattr(edits, kind)(*told)
                except Exception:
                    pass
            text = write_journal(edits)
            cut = rng.randrange(len(text) + 1)
            again, number = recover(system, text[:cut])
            self.same(number, text[:cut].count('\n'))
            self.same(again.deeds(), edits.deeds()[:number])
            while len(edits):
                edits.undo()
            self.assertEqual(edits.system, system)

    def test_i_dossiers_and_shelves(self):
        for seed in range(110, 116):
            system = wide_system(seed)
            entry = system.services()[-1]
            shelf = Shelf(system)
            numbers = shelf.numbers(entry)
            for measure in measures(system):
                self.same(numbers[measure], Counts(system, measure).greatest(entry))
            self.same(numbers[('answer',)], answer_times(system, entry))
            again, other = read_shelf(system, 'x\n' + shelf.text() + shelf.text()[:-9])
            self.same((again.entries(), other), ([entry], 2))
            self.same(again.numbers(entry), numbers)

    def test_j_texts(self):
        for seed in range(116, 130):
            system = wide_system(seed, seed % 2 == 0)
            self.assertEqual(parse_system(format_system(system)), system)
            console = Console()
            console.execute('system ' + format_system(system).replace('\n', ';'))
            self.assertEqual(parse_system(console.execute('show').replace(';', '\n')), system)
            value = dossier(system, system.services()[2])
            self.assertTrue(is_value(value))
            self.same(read_value(write_value(value)), (value,))


class GreatestSizeTest(Case):
    def test_a_system_of_the_greatest_size(self):
        system = greatest_system()
        self.same((len(system), len(system.policies())), (6, 8))
        self.assertEqual(parse_system(format_system(system)), system)
        entry = 'servicec'
        for measure in measures(system) + [('work', 'servicea', 6), ('nobody', 'servicea', 6)]:
            counts = Counts(system, measure)
            run = play(system, counts.best(entry))
            number = counts.greatest(entry)
            self.same(run.measured(measure)[-1] if len(measure) == 3 else run.measured(measure), number[-1] if len(measure) == 3 else number)
        value = dossier(system, entry)
        numbers = check_dossier(system, entry, value)
        self.same(numbers[('calls', 'servicea')], Counts(system, ('calls', 'servicea')).greatest(entry))
        self.same(ask(system, 'calls servicea from servicec'), str(numbers[('calls', 'servicea')]))
        self.same(ask(system, 'answer servicec'), '%d to %d' % numbers[('answer',)])
        log = log_of(drawn_run(system, entry, 4))
        self.assertGreater(len(log), 12)
        self.assertIsNone(judged(system, entry, log))
        # The greatest numbers of the last service are found although no run of it could be played.
        for name in ('servicea', 'servicef'):
            paper = bound_paper(system, 'servicef', ('calls', name))
            self.same(check_bound(system, 'servicef', ('calls', name), paper), Counts(system, ('calls', name)).greatest('servicef'))

    def test_long_integers(self):
        most = 10 ** 30 - 1
        self.raises(InvalidPolicy, {'field': 'limit'}, parse_system, 'policy p limit %d tries 1 go\nservice a\nend' % most)
        self.raises(InvalidPart, {'service': 'a', 'place': 0}, parse_system, 'service a\nrun 0 %d\nend' % most)
        system = parse_system('service a\nrun 0 3\nend')
        self.same(play(system, Pattern('a', {(most,): most})).end, 0)
        self.same(read_value(write_value((most, -most))), ((most, -most),))
        table = run_table(most, most, 1)
        self.same(table.__call__(5).stops, {tick: tick for tick in range(6)})
        paper = tuple((name, left, wanted, tuple((tick, most) for tick, _ in answers), fails, stops)
                      for name, left, wanted, answers, fails, stops in bound_paper(system, 'a', ('work', 'a')))
        self.same(check_bound(system, 'a', ('work', 'a'), paper), most)
        console = Console()
        console.execute('system policy p limit 3 tries 1 go;service a;end')
        self.raises(InvalidPolicy, {'field': 'limit'}, console.execute, 'ask with p limit %d hopeless' % most)
        self.raises(InvalidPolicy, {'field': 'limit'}, console.execute, 'policy p limit %d tries 1 go' % most)

    def test_the_longest_span(self):
        policy = Policy('p', 20, tries=3)
        block = (('call', 'a', 'p'),) * 6 + (('run', 0, 20),) * 2
        system = System([policy], [('a', (('run', 0, 20),)), ('b', block)])
        self.same(system.span('b'), 400)
        self.same(answer_times(system, 'b'), (0, 160))
        never = system.with_block('a', (('risk',),))
        self.raises(TooLong, {'service': 'b'}, system.with_block, 'b', block + (('run', 0, 1),))
        self.same(answer_times(never, 'b'), (0, 40))


if __name__ == '__main__':
    unittest.main()
