import random
import unittest

import slowtables
from helpers import VALUES, Case
from mostcalls.counts import Counts
from mostcalls.errors import InvalidNumber, InvalidPolicy, InvalidTable
from mostcalls.policies import Policy
from mostcalls.rows import Rows
from mostcalls.systems import System
from mostcalls.tables import Table, risk_table, run_table
from mostcalls.tries import call_table, want_table

LEFTS = (None, 0, 1, 2, 3, 4, 6, 9, 14, 30)
ENDINGS = (('go',), ('deadline',), ('stop', 0), ('stop', 1), ('stop', 3))


def slow(table):
    return lambda left: slowtables.ways_of(table(left))


def drawn_policy(rng, most=3):
    fields = {'tries': rng.randint(1, 3), 'lossy': rng.random() < 0.5, 'ending': rng.choice(ENDINGS)}
    if fields['tries'] > 1 and rng.random() < 0.5:
        fields['early'] = rng.randint(1, most + 2)
    elif rng.random() < 0.7:
        fields['pauses'] = tuple(rng.randint(0, 3) for _ in range(fields['tries'] - 1))
    return Policy('p', rng.randint(1, most), **fields)


class CallTest(Case):
    def check(self, policy, callee, cost):
        table = call_table(policy, callee, cost)
        for left in LEFTS:
            wanted = slowtables.rows_of(slowtables.called(policy, slow(callee), left, cost), left)
            self.assertEqual(table(left), wanted, (vars(policy), left))

    def test_drawn(self):
        for seed in range(400):
            rng = random.Random(f'call {seed}')
            self.check(drawn_policy(rng), slowtables.drawn_table(('callee', seed), rng.randint(0, 6)), rng.randint(0, 4))

    def test_all_kinds_of_policies(self):
        callee = slowtables.drawn_table('kinds', 4)
        for ending in ENDINGS:
            for lossy in (False, True):
                for tries in (1, 2, 3):
                    named = {'tries': tries, 'lossy': lossy, 'ending': ending}
                    self.check(Policy('p', 2, pauses=(1, 0)[:tries - 1], **named), callee, 1)
                    self.check(Policy('p', 2, pauses=(0, 2)[:tries - 1], **named), callee, 0)
                    if tries > 1:
                        for early in (1, 2, 3):
                            self.check(Policy('p', 2, early=early, **named), callee, 1)

    def test_by_hand(self):
        callee = run_table(1, 4, 1)
        self.assertEqual(call_table(Policy('p', 2), callee)(None), Rows({1: 1, 2: 2}, {2: 4}, {0: 4, 1: 4}))
        self.assertEqual(call_table(Policy('p', 2, ending=('stop', 1)), callee)(None),
                         Rows({1: 1, 2: 2}, {2: 3}, {0: 1, 1: 2}))
        self.assertEqual(call_table(Policy('p', 2, ending=('deadline',)), callee)(None),
                         Rows({1: 1, 2: 2}, {2: 2}, {0: 2, 1: 2}))
        self.assertEqual(call_table(Policy('p', 2, ending=('deadline',)), callee)(1), Rows({1: 1}, {}, {0: 1, 1: 1}))
        self.assertEqual(call_table(Policy('p', 2, tries=2, pauses=(1,)), callee, 10)(None),
                         Rows({1: 11, 2: 12, 4: 25, 5: 26}, {5: 28}, {0: 14, 1: 14, 2: 14, 3: 28, 4: 28}))
        self.assertEqual(call_table(Policy('p', 2, tries=2, early=1), callee, 10)(None),
                         Rows({1: 25, 2: 26, 3: 26}, {3: 28}, {0: 14, 1: 28, 2: 28}))
        lossy = Policy('p', 2, lossy=True)
        self.assertEqual(call_table(lossy, risk_table(), 5)(None), Rows({0: 5}, {0: 5, 2: 5}, {0: 5, 1: 5}))

    def test_a_try_is_answered_at_its_limit_and_begins_at_the_last_tick(self):
        late = Table(lambda left: Rows({2: 1}, {}, {}) if left is None else Rows({}, {}, {left: 0}))
        self.assertEqual(call_table(Policy('p', 2), late)(None), Rows({2: 1}, {}, {0: 1, 1: 1}))
        quick = Table(lambda left: Rows({0: 1}, {0: 7}, {}))
        for early in (None, 1):
            pauses = (1,) if early is None else None
            policy = Policy('p', 1, tries=2, pauses=pauses, early=early)
            self.assertEqual(call_table(policy, quick)(1).answers, {0: 1, 1: 8})

    def test_which_rows_are_asked(self):
        for ending, left, wanted in ((('go',), None, [None]), (('go',), 7, [None]), (('stop', 2), 1, [None]),
                                     (('deadline',), None, [4]), (('deadline',), 2, [2]), (('deadline',), 0, [0]),
                                     (('deadline',), 6, [2, 4])):
            asked = []

            def rows(rest):
                asked.append(rest)
                return Rows({} if rest == 4 else {0: 1}, {}, {rest: 1} if rest is not None else {5: 1})
            table = call_table(Policy('p', 4, tries=3, ending=ending), Table(rows))
            self.assertEqual(asked, [])
            table(left)
            self.assertEqual(sorted(asked, key=lambda rest: -1 if rest is None else rest), wanted)

    def test_names(self):
        policy = Policy('p', 2, tries=2)
        self.assertEqual(call_table(cost=3, callee=run_table(1, 3), policy=policy)(None),
                         call_table(policy, run_table(1, 3), 3)(None))
        self.assertEqual(call_table(callee=run_table(1, 3), policy=policy)(None),
                         call_table(policy, run_table(1, 3), 0)(None))
        self.assertEqual(want_table(table=risk_table())(left=None), Rows({0: 0}, {}, {}))

    def test_errors_in_order(self):
        policy, table = Policy('p', 2), risk_table()
        for value in VALUES:
            self.raises(InvalidPolicy, {'field': None}, call_table, value, value, value)
            self.raises(InvalidTable, {'value': value}, call_table, policy, value, value)
            self.raises(InvalidTable, {'value': value}, want_table, value)
            if not (value.__class__ is int and value >= 0):
                self.raises(InvalidNumber, {'value': value}, call_table, policy, table, value)
        self.raises(InvalidPolicy, {'field': None}, call_table, callee=table, policy='p', cost=-1)
        self.raises(InvalidPolicy, {'field': None}, call_table, Policy, table)

    def test_great_costs_and_ticks(self):
        far = Table(lambda left: Rows({1: 10 ** 20, 10 ** 25: 10 ** 22}, {}, {}))
        self.assertEqual(call_table(Policy('p', 1, tries=2), far, 10 ** 24)(10 ** 26),
                         Rows({1: 10 ** 24 + 10 ** 20, 2: 2 * 10 ** 24 + 10 ** 22 + 10 ** 20},
                              {2: 2 * 10 ** 24 + 2 * 10 ** 22}, {0: 10 ** 24 + 10 ** 22, 1: 2 * 10 ** 24 + 2 * 10 ** 22}))


class WantTest(Case):
    def test_drawn(self):
        for seed in range(40):
            table = slowtables.drawn_table(('want', seed))
            for left in LEFTS:
                rows = table(left)
                answers = dict(rows.answers)
                for tick, number in rows.fails.items():
                    answers[tick] = max(number, answers.get(tick, number))
                self.assertEqual(want_table(table)(left), Rows(answers, {}, rows.stops))


class BlocksTest(Case):
    """tables that are put together are those of the services with such blocks, whatever is counted."""

    def test_put_together(self):
        measures = [('calls', 'a'), ('work', 'a'), ('work', 'b'), ('last',), ('nobody', 'b'), ('calls', 'a', 2),
                    ('work', 'a', 1), ('work', 'b', 0), ('nobody', 'b', 1)]
        for seed in range(30):
            rng = random.Random(f'blocks {seed}')
            policy = drawn_policy(rng, 4)
            first = (('run', rng.randint(0, 2), 3), ('risk',))
            other = (('call', 'a', 'p'), ('run', 0, 1), ('maybe', (('run', 1, 3), ('risk',))))
            blocks = [('a', first), ('b', other), ('c', first + other), ('d', (('both', first, other),)),
                      ('e', (('maybe', other),)), ('f', (('want', 'b', 'p'),))]
            system = System([policy], blocks)
            for measure in measures:
                counts = Counts(system, measure)
                a, b, c, d, e, f = [counts.table(name) for name in system]
                empty = Counts(system.with_block('a', ()), measure).table('a')
                if measure[:2] in (('work', 'a'), ('work', 'b'), ('nobody', 'b')):
                    # Work of another service does not count.
                    a, b = [Counts(system.with_block('c', block), ('work', 'c') + measure[2:]).table('c')
                            for block in (first, other)]
                    c, d, e = [Counts(system.with_block('c', system[name]), ('work', 'c') + measure[2:]).table('c')
                               for name in 'cde']
                pairs = [(a >> b, c), (a & b, d), (b | empty, e)]
                if measure[0] in ('calls', 'last'):
                    pairs.append((want_table(call_table(policy, b)), f))
                for built, told in pairs:
                    for left in (None, 0, 1, 3, 5, 8):
                        self.assertEqual(built(left), told(left), (seed, measure, left))

    def test_calls(self):
        for seed in range(30):
            rng = random.Random(f'calls {seed}')
            policies = [drawn_policy(rng, 4), Policy('q', rng.randint(1, 4), tries=2, ending=rng.choice(ENDINGS))]
            system = System(policies, [('a', (('run', 0, 3), ('risk',))), ('b', (('call', 'a', 'q'), ('run', 0, 2))),
                                       ('c', (('call', 'b', 'p'),)), ('d', (('want', 'b', 'p'),))])
            for measure in (('calls', 'a'), ('calls', 'b'), ('work', 'a'), ('work', 'b'), ('last',), ('calls', 'a', 2),
                            ('calls', 'b', 3), ('work', 'a', 1)):
                counts = Counts(system, measure)
                built = call_table(system.policy('p'), counts.table('b'), 1 if measure[:2] == ('calls', 'b') else 0)
                for left in (None, 0, 1, 2, 5, 8):
                    self.assertEqual(built(left), counts.table('c')(left), (seed, measure, left))
                    self.assertEqual(want_table(built)(left), counts.table('d')(left))


if __name__ == '__main__':
    unittest.main()
