import unittest

import slowtables
from helpers import VALUES, Case
from mostcalls.counts import Counts
from mostcalls.errors import InvalidNumber, InvalidTable
from mostcalls.rows import Rows
from mostcalls.tables import Table, empty_table, risk_table, run_table
from samples import some_system

LEFTS = (None, 0, 1, 2, 3, 4, 5, 7, 10, 12, 40)


def slow(table):
    """a function that tells all ways of a table."""
    return lambda left: slowtables.ways_of(table(left))


def fixed(answers, fails=(), stops=()):
    """a table that tells the same numbers for all ticks left."""
    def rows(left):
        return Rows(*[{tick: row[tick] for tick in row if left is None or tick <= left}
                      for row in (answers, dict(fails), dict(stops))])
    return Table(rows)


class SimpleTablesTest(Case):
    def test_empty(self):
        for left in LEFTS:
            self.assertEqual(empty_table()(left), Rows({0: 0}, {}, {}))

    def test_risk(self):
        for left in LEFTS:
            self.assertEqual(risk_table()(left), Rows({0: 0}, {0: 0}, {}))

    def test_run(self):
        self.assertEqual(run_table(2, 4, 3)(None), Rows({2: 6, 3: 9, 4: 12}, {}, {0: 0, 1: 3, 2: 6, 3: 9}))
        self.assertEqual(run_table(2, 4, 3)(), Rows({2: 6, 3: 9, 4: 12}, {}, {0: 0, 1: 3, 2: 6, 3: 9}))
        self.assertEqual(run_table(2, 4, 3)(4), Rows({2: 6, 3: 9, 4: 12}, {}, {0: 0, 1: 3, 2: 6, 3: 9}))
        self.assertEqual(run_table(2, 4, 3)(3), Rows({2: 6, 3: 9}, {}, {0: 0, 1: 3, 2: 6, 3: 9}))
        self.assertEqual(run_table(2, 4, 3)(2), Rows({2: 6}, {}, {0: 0, 1: 3, 2: 6}))
        self.assertEqual(run_table(2, 4, 3)(1), Rows({}, {}, {0: 0, 1: 3}))
        self.assertEqual(run_table(2, 4, 3)(0), Rows({}, {}, {0: 0}))
        self.assertEqual(run_table(0, 0)(0), Rows({0: 0}, {}, {}))
        self.assertEqual(run_table(0, 0, 7)(None), Rows({0: 0}, {}, {}))
        self.assertEqual(run_table(0, 1)(None), Rows({0: 0, 1: 0}, {}, {0: 0}))
        self.assertEqual(run_table(3, 3, 1)(None), Rows({3: 3}, {}, {0: 0, 1: 1, 2: 2}))
        self.assertEqual(run_table(30, 30, 10 ** 20)(30).answers, {30: 30 * 10 ** 20})

    def test_run_by_name(self):
        self.assertEqual(run_table(weight=2, hi=3, lo=1)(left=None), run_table(1, 3, 2)(None))

    def test_wrong_numbers_of_a_run(self):
        for value in VALUES:
            if value.__class__ is int and value >= 0:
                continue
            self.raises(InvalidNumber, {'value': value}, run_table, value, value, value)
            self.raises(InvalidNumber, {'value': value}, run_table, 3, value, value)
            self.raises(InvalidNumber, {'value': value}, run_table, 3, 4, value)
            self.raises(InvalidNumber, {'value': value}, run_table, 4, 3, value)
        self.raises(InvalidNumber, {'value': 3}, run_table, 4, 3, 2)
        self.raises(InvalidNumber, {'value': 3}, run_table, hi=3, lo=4)


class TableTest(Case):
    def test_called_once_and_only_when_asked(self):
        function, asked = slowtables.drawn_function('once')
        table = Table(function)
        self.assertEqual(asked, [])
        for left in (3, None, 3, 0, None, 0, 3):
            self.assertEqual(table(left), function(left))
            asked.pop()
        self.assertEqual(asked, [3, None, 0])

    def test_operators_ask_nothing(self):
        function, asked = slowtables.drawn_function('lazy')
        table = Table(rows=function)
        made = [table >> table, table | table, table & table, (table >> table) & table | table]
        self.assertEqual(asked, [])
        for other in made:
            other(2)
            other(None)
        self.assertEqual(len(asked), len(set(asked)))
        self.assertLessEqual(set(asked), {None, 0, 1, 2})

    def test_only_rows_that_are_needed_are_asked(self):
        function, asked = slowtables.drawn_function('needed')
        (fixed({1: 5, 4: 6}, {2: 1}) >> Table(function))(6)
        self.assertEqual(sorted(asked), [2, 5])
        (fixed({}, {2: 1}) >> Table(function))(9)
        self.assertEqual(sorted(asked), [2, 5])
        (Table(function) & fixed({0: 0}))(3)
        (Table(function) | fixed({0: 0}))(left=4)
        self.assertEqual(sorted(asked[:2]) + asked[2:], [2, 5, 3, 4])

    def test_wrong_ticks_left(self):
        function, asked = slowtables.drawn_function('wrong')
        tables = [Table(function), Table(function) >> empty_table(), run_table(1, 2), risk_table() & risk_table()]
        for table in tables:
            for value in VALUES:
                if value is None or value.__class__ is int and value >= 0:
                    continue
                self.raises(InvalidNumber, {'value': value}, table, value)
                self.raises(InvalidNumber, {'value': value}, table, left=value)
        self.assertEqual(asked, [])

    def test_an_error_of_the_function_changes_nothing(self):
        calls = []

        def rows(left):
            calls.append(left)
            if len(calls) < 3:
                raise KeyError(left)
            return Rows({0: 1}, {}, {})
        table = Table(rows)
        twice = table >> table
        self.assertRaises(KeyError, table, 4)
        self.assertRaises(KeyError, twice, 4)
        self.assertEqual(twice(4), Rows({0: 2}, {}, {}))
        self.assertEqual(calls, [4, 4, 4])

    def test_wrong_tables(self):
        table = run_table(1, 2)
        for value in VALUES:
            self.raises(InvalidTable, {'value': value}, lambda other=value: table >> other)
            self.raises(InvalidTable, {'value': value}, lambda other=value: table | other)
            self.raises(InvalidTable, {'value': value}, lambda other=value: table & other)

    def test_tables_that_are_put_together_otherwise(self):
        system = some_system(5)
        measures = [('calls', 'a'), ('work', 'a'), ('nobody', 'b'), ('last',), ('calls', 'a', 0), ('work', 'b', 1),
                    ('calls', 'b', 1), ('nobody', 'b', 6), ('work', 'a', 6)]
        kinds = [measure[2] if len(measure) > 2 else measure == ('last',) and 'last' for measure in measures]
        tables = [Counts(system, measure).table('b') for measure in measures]
        tables += [run_table(0, 1), Table(lambda left: Rows({}, {}, {})), tables[0] >> tables[1], tables[4] & tables[4]]
        kinds += [False, False, False, 0]
        for one, kind in zip(tables, kinds):
            for other, other_kind in zip(tables, kinds):
                if kind is other_kind or kind == other_kind and False not in (kind, other_kind):
                    for table in (one >> other, one | other, one & other):
                        table(None)
                        table(2)
                else:
                    self.raises(InvalidTable, {'value': other}, lambda: one >> other)
                    self.raises(InvalidTable, {'value': other}, lambda: one | other)
                    self.raises(InvalidTable, {'value': other}, lambda: one & other)


class PutTogetherTest(Case):
    def check(self, table, wanted):
        for left in LEFTS:
            self.assertEqual(table(left), slowtables.rows_of(wanted(left), left), left)

    def test_behind(self):
        for seed in range(60):
            one, other = slowtables.drawn_table((seed, 1)), slowtables.drawn_table((seed, 2))
            self.check(one >> other, lambda left: slowtables.behind(slow(one), slow(other), left))

    def test_either(self):
        for seed in range(60):
            one, other = slowtables.drawn_table((seed, 3)), slowtables.drawn_table((seed, 4))
            self.check(one | other, lambda left: slow(one)(left) + slow(other)(left))

    def test_at_once(self):
        for seed in range(100):
            one, other = slowtables.drawn_table((seed, 5)), slowtables.drawn_table((seed, 6))
            self.check(one & other, lambda left: slowtables.at_once(slow(one), slow(other), left))

    def test_three(self):
        for seed in range(60):
            a, b, c = [slowtables.drawn_table((seed, name)) for name in 'abc']
            self.check(a >> (b >> c), slow((a >> b) >> c))
            self.check(a & (b & c), slow((a & b) & c))
            self.check(a | (b | c), slow((a | b) | c))
            self.check((a & b) >> (c | a), lambda left: slowtables.behind(
                lambda rest: slowtables.at_once(slow(a), slow(b), rest), lambda rest: slow(c)(rest) + slow(a)(rest), left))

    def test_order_and_empty_tables(self):
        for seed in range(30):
            a, b = slowtables.drawn_table((seed, 7)), slowtables.drawn_table((seed, 8))
            self.check(a & b, slow(b & a))
            self.check(a | b, slow(b | a))
            self.check(a | a, slow(a))
            self.check(a >> empty_table(), slow(a))
            self.check(empty_table() >> a, slow(a))
            self.check(a & empty_table(), slow(a))

    def test_by_hand(self):
        one = fixed({1: 5, 3: 2}, {2: 4}, {0: 1, 1: 7})
        other = fixed({0: 1, 2: 3}, {1: 6}, {0: 2, 1: 1})
        self.assertEqual((one >> other)(None), Rows({1: 6, 3: 8, 5: 5}, {2: 11, 4: 8}, {0: 1, 1: 7, 2: 6, 3: 4, 4: 3}))
        self.assertEqual((one >> other)(3), Rows({1: 6, 3: 8}, {2: 11}, {0: 1, 1: 7, 2: 6, 3: 4}))
        self.assertEqual((one & other)(None), Rows({1: 6, 2: 8, 3: 5}, {1: 13, 2: 7}, {0: 3, 1: 8}))
        self.assertEqual((one | other)(None), Rows({0: 1, 1: 5, 2: 3, 3: 2}, {1: 6, 2: 4}, {0: 2, 1: 7}))
        self.assertEqual((one | other)(1), Rows({0: 1, 1: 5}, {1: 6}, {0: 2, 1: 7}))

    def test_runs_and_risks(self):
        block = run_table(1, 2, 1) >> risk_table() >> run_table(0, 3, 10)
        self.assertEqual(block(None), Rows({1: 1, 2: 11, 3: 21, 4: 31, 5: 32}, {1: 1, 2: 2},
                                           {0: 0, 1: 1, 2: 11, 3: 21, 4: 22}))
        self.assertEqual(block(2), Rows({1: 1, 2: 11}, {1: 1, 2: 2}, {0: 0, 1: 1, 2: 11}))
        both = run_table(1, 3, 1) & risk_table()
        self.assertEqual(both(None), Rows({1: 1, 2: 2, 3: 3}, {0: 0}, {0: 0, 1: 1, 2: 2}))

    def test_great_ticks(self):
        far = Table(lambda left: Rows({10 ** 20: 1}, {}, {10 ** 19: 2}) if left is None else Rows({}, {}, {0: 1}))
        self.assertEqual((far >> far)(None), Rows({2 * 10 ** 20: 2}, {}, {10 ** 19: 2, 10 ** 20 + 10 ** 19: 3}))
        self.assertEqual((far & far)(None), Rows({10 ** 20: 2}, {}, {10 ** 19: 4}))
        self.assertEqual((run_table(1, 2) >> run_table(1, 1))(10 ** 25), (run_table(1, 2) >> run_table(1, 1))(None))


if __name__ == '__main__':
    unittest.main()
