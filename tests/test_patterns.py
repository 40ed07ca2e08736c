import itertools
import unittest

from helpers import VALUES, Awkward, Case
from samples import some_system
from mostcalls.errors import InvalidChoices, InvalidName, UnknownName
from mostcalls.machine import play
from mostcalls.patterns import Pattern, all_patterns
from mostcalls.policies import Policy
from mostcalls.systems import System
from mostcalls.texts import parse_system

NO_PATHS = VALUES + ((0, -1), (True,), (0, False), ('a',), (0, None), [0], [0, 1], '0', 0, (0, (1,)), {0: 1}, (Awkward(),))


class PatternTest(Case):
    def test_what_was_told(self):
        pattern = Pattern('b', {(0, 0, 0): 5, (1,): 0})
        self.same(pattern.entry, 'b')
        self.same(pattern.choices(), {(0, 0, 0): 5, (1,): 0})
        self.same(pattern((0, 0, 0)), 5)
        self.same(pattern((1,)), 0)
        self.assertEqual(len(pattern), 2)
        self.assertEqual(Pattern(choices={(1,): 2}, entry='b'), Pattern('b', {(1,): 2}))
        self.assertEqual(len(Pattern('b', {})), 0)
        self.same(Pattern('b', {(10 ** 29,): 10 ** 29}).choices(), {(10 ** 29,): 10 ** 29})

    def test_other_values_have_no_choice(self):
        pattern = Pattern('b', {(0, 0): 5, (1,): 0, (1, 0): 1, (0, 1): 1})
        self.assertIsNone(pattern((2,)))
        self.assertIsNone(pattern((0,)))
        self.assertIsNone(pattern(path=()))
        self.same(pattern(path=(0, 0)), 5)
        for value in ((1, False), (False, 1), (False, True), (0, True), (True,)):
            self.assertIsNone(pattern(value))
        for value in NO_PATHS:
            self.assertIsNone(pattern(value))

    def test_membership_of_any_value(self):
        pattern = Pattern('b', {(0, 0): 5, (1,): 0, (1, 0): 1, (0, 1): 1})
        for path in ((0, 0), (1,), (1, 0), (0, 1)):
            self.assertIs(path in pattern, True)
            self.assertIs(path not in pattern, False)
        for value in NO_PATHS + ((2,), (0,), (), ((1,), 0), (1, False), (False, 1), (False, True), (0, True), (True,)):
            self.assertIs(value in pattern, False)

    def test_iteration_is_ascending(self):
        choices = {(1,): 4, (0, 2): 3, (0,): 2, (10,): 0, (9, 9): 1, (0, 1, 5): 6}
        wanted = [((0,), 2), ((0, 1, 5), 6), ((0, 2), 3), ((1,), 4), ((9, 9), 1), ((10,), 0)]
        self.same(list(Pattern('a', choices)), wanted)
        self.same([pair for pair in Pattern('a', dict(reversed(choices.items())))], wanted)
        self.same(list(Pattern('a', {})), [])

    def test_what_is_handed_in_or_told_can_be_changed(self):
        choices = {(0,): 1, (1,): 2}
        pattern = Pattern('a', choices)
        choices[(0,)] = 7
        del choices[(1,)]
        self.same(pattern.choices(), {(0,): 1, (1,): 2})
        told = pattern.choices()
        told[(0,)] = 7
        told.pop((1,))
        self.same(pattern.choices(), {(0,): 1, (1,): 2})
        self.same(list(pattern), [((0,), 1), ((1,), 2)])
        self.same([pattern((0,)), pattern((1,)), len(pattern)], [1, 2, 2])

    def test_entry_is_not_set(self):
        with self.assertRaises(AttributeError):
            Pattern('a', {}).entry = 'b'

    def test_equal_if_entry_and_choices_are(self):
        makers = [lambda: Pattern('a', {}), lambda: Pattern('b', {}), lambda: Pattern('a', {(0,): 0}),
                  lambda: Pattern('a', {(0,): 1}), lambda: Pattern('a', {(1,): 1}), lambda: Pattern('b', {(1,): 1}),
                  lambda: Pattern('a', {(0,): 1, (1,): 1})]
        for (i, one), (k, other) in itertools.product(enumerate(makers), repeat=2):
            self.assertIs(one() == other(), i == k)
            self.assertIs(one() != other(), i != k)
        self.assertEqual(Pattern('a', {(0,): 1, (1,): 2}), Pattern('a', {(1,): 2, (0,): 1}))
        for value in VALUES + ('a', {(0,): 1}):
            self.assertIs(Pattern('a', {(0,): 1}) == value, False)
            self.assertIs(Pattern('a', {(0,): 1}) != value, True)

    def test_invalid_names(self):
        for value in VALUES + ('A', '', 'abcdefghi', 'a1', ['a'], b'a'):
            if not (isinstance(value, str) and value in ('a', 'zz')):
                self.raises(InvalidName, {'value': value}, Pattern, value, None)

    def test_invalid_choices(self):
        right = VALUES.index({}), VALUES.index({(0,): 1})
        wrong = tuple(value for place, value in enumerate(VALUES) if place not in right)
        for value in wrong + ([((0,), 1)], {(): 1}, {(0,): -1}, {(0,): True}, {(0,): False}, {(0,): None}, {(0,): '1'},
                               {(0,): (1,)}, {(0,): Awkward()}, {(-1,): 1}, {(0, -1): 1}, {(True,): 1}, {(0, False): 1},
                               {0: 1}, {'0': 1}, {None: 1}, {('a',): 1}, {(0, (0,)): 1}, {(0,): 1, (1,): -1},
                               {(0,): 1, 1: 1}, {(0,): 1, (): 1}, {True: 1}, Pattern('a', {}), {frozenset(): 1}):
            self.raises(InvalidChoices, {'value': value}, Pattern, 'a', value)


class UnionTest(Case):
    def test_choices_of_both(self):
        one = Pattern('a', {(0,): 1, (1,): 2})
        other = Pattern('a', {(1,): 3, (2,): 0})
        self.same((one | other).choices(), {(0,): 1, (1,): 3, (2,): 0})
        self.same((other | one).choices(), {(1,): 2, (2,): 0, (0,): 1})
        self.assertIs(type(one | other), Pattern)
        self.assertEqual((one | other).entry, 'a')
        self.assertEqual(one | one, one)
        self.assertEqual(one | Pattern('a', {}), one)
        self.assertEqual(Pattern('a', {}) | one, one)
        self.assertEqual(Pattern('a', {(0,): 5}) | Pattern('a', {(0,): 0}), Pattern('a', {(0,): 0}))

    def test_both_stay(self):
        one = Pattern('a', {(0,): 1, (1,): 2})
        other = Pattern('a', {(1,): 3})
        (one | other).choices().clear()
        self.same(one.choices(), {(0,): 1, (1,): 2})
        self.same(other.choices(), {(1,): 3})

    def test_other_values(self):
        one = Pattern('a', {(0,): 1})
        for value in VALUES + (Pattern('b', {}), Pattern('b', {(0,): 1}), {(1,): 1}, 'a'):
            self.raises(InvalidChoices, {'value': value}, lambda: one | value)
        self.same(one.choices(), {(0,): 1})


def options(system, service, path):
    """all paths of choices that a handler run can meet, with the possible choices."""
    found = {}

    def block(parts, around):
        for index, part in enumerate(parts):
            mine = around + (index,)
            if part[0] == 'run':
                found[mine] = range(part[1], part[2] + 1)
            elif part[0] in ('risk', 'maybe'):
                found[mine] = range(2)
            if part[0] == 'maybe':
                block(part[1], mine)
            elif part[0] == 'both':
                block(part[1], mine + (0,))
                block(part[2], mine + (1,))
            elif part[0] in ('call', 'want'):
                policy = system.policy(part[2])
                for number in range(policy.tries):
                    if policy.lossy:
                        found[mine + (number,)] = range(2)
                    found.update(options(system, part[1], mine + (number,)))

    block(system[service], path)
    return found


def by_trying(system, entry):
    """what all patterns meet, by playing all combinations of all choices."""
    told = options(system, entry, ())
    met = set()
    for choices in itertools.product(*told.values()):
        met.add(tuple(play(system, Pattern(entry, dict(zip(told, choices)))).met()))
    return met


class AllPatternsTest(Case):
    def check(self, system, entry):
        told = list(all_patterns(system, entry))
        for pattern in told:
            self.assertIs(type(pattern), Pattern)
            self.assertEqual(pattern.entry, entry)
            self.assertEqual(play(system, pattern).met(), list(pattern))
        keys = {tuple(pattern) for pattern in told}
        self.assertEqual(len(keys), len(told))
        self.assertEqual(keys, by_trying(system, entry))
        return told

    def test_each_kind_of_part(self):
        policies = [Policy('p', 2, tries=2, lossy=True, ending=('stop', 1)), Policy('q', 2, tries=2, early=1)]
        system = System(policies, [('a', (('run', 1, 3), ('risk',)))])
        self.assertEqual(len(self.check(system, 'a')), 6)
        for part in (('run', 2, 5), ('risk',), ('maybe', (('run', 0, 2), ('risk',))), ('call', 'a', 'p'),
                     ('both', (('risk',), ('run', 0, 1)), (('run', 0, 2), ('risk',))), ('want', 'a', 'q')):
            self.check(system.with_service('b', (part,)), 'b')
            self.check(system.with_service('b', (('risk',), part, ('run', 0, 1))), 'b')

    def test_numbers_of_patterns(self):
        def many(*block):
            return len(list(all_patterns(System([], [('a', block)]), 'a')))

        self.assertEqual(many(), 1)
        self.assertEqual(many(('run', 3, 7)), 5)
        self.assertEqual(many(('run', 4, 4)), 1)
        self.assertEqual(many(('risk',), ('risk',), ('risk',)), 4)
        self.assertEqual(many(('maybe', (('run', 0, 3),))), 5)
        self.assertEqual(many(('both', (('run', 0, 3),), (('run', 1, 2),))), 8)
        self.assertEqual(many(('both', (('risk',), ('run', 0, 3)), (('run', 1, 2), ('run', 0, 9)))), 4 * 2 * 10 + 2)

    def test_empty_block(self):
        self.assertEqual(list(all_patterns(System([], [('a', ())]), 'a')), [Pattern('a', {})])

    def test_the_example(self):
        system = parse_system('policy p limit 2 tries 2 stop 1\nservice a\n  run 1 9\nend\nservice b\n  call a p\nend')
        told = self.check(system, 'b')
        self.assertEqual(len(told), 2 + 7 * 9)
        self.assertIn(Pattern('b', {(0, 0, 0): 5, (0, 1, 0): 1}), told)
        self.assertNotIn(Pattern('b', {(0, 0, 0): 2, (0, 1, 0): 1}), told)

    def test_small_systems(self):
        checked = 0
        for seed in range(400):
            system = some_system(seed, services=2, length=2)
            entry = system.services()[-1]
            size = 1
            for choices in options(system, entry, ()).values():
                size *= len(choices)
            if 1 < size <= 600:
                self.check(system, entry)
                checked += 1
        self.assertGreater(checked, 80)

    def test_it_goes_on_as_far_as_asked(self):
        system = System([Policy('p', 20, tries=3)], [('a', (('run', 0, 20), ('risk',)) * 6), ('b', (('call', 'a', 'p'),))])
        told = list(itertools.islice(all_patterns(system=system, entry='b'), 500))
        self.assertEqual(len({tuple(pattern) for pattern in told}), 500)

    def test_unknown_names_when_the_iteration_begins(self):
        system = System([], [('a', ())])
        for value in VALUES + ('b', 'p', ['a'], ('a',)):
            if not (isinstance(value, str) and value == 'a'):
                patterns = all_patterns(system, value)
                self.raises(UnknownName, {'value': value}, next, iter(patterns))

    def test_equal_arguments_give_equal_patterns(self):
        system = some_system(7, services=2)
        entry = system.services()[-1]
        first, second = (list(itertools.islice(all_patterns(system, entry), 50)) for _ in range(2))
        self.assertEqual(first, second)


if __name__ == '__main__':
    unittest.main()
