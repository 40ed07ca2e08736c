import itertools
import unittest

from helpers import VALUES, Awkward, Case
from mostcalls.errors import InvalidName, InvalidPolicy
from mostcalls.policies import Policy

FIELDS = ('limit', 'tries', 'pauses', 'early', 'lossy', 'ending')


def fields_of(policy):
    return {field: getattr(policy, field) for field in ('name',) + FIELDS}


class PropertiesTest(Case):
    def test_what_is_left_out(self):
        self.same(list(fields_of(Policy('p', 5)).items()), [
            ('name', 'p'), ('limit', 5), ('tries', 1), ('pauses', ()), ('early', None), ('lossy', False),
            ('ending', ('go',))])

    def test_all_seven(self):
        policy = Policy('abcdefgh', 20, tries=3, pauses=(0, 8), lossy=True, ending=('stop', 20))
        self.same(list(fields_of(policy).values()), ['abcdefgh', 20, 3, (0, 8), None, True, ('stop', 20)])
        policy = Policy('z', 1, tries=2, early=20, ending=('deadline',))
        self.same(list(fields_of(policy).values()), ['z', 1, 2, (), 20, False, ('deadline',)])

    def test_arguments_by_name(self):
        policy = Policy(name='p', limit=3, tries=2, pauses=None, early=None, lossy=False, ending=('stop', 0))
        self.same(list(fields_of(policy).values()), ['p', 3, 2, (0,), None, False, ('stop', 0)])

    def test_all_but_two_are_by_name_only(self):
        with self.assertRaises(TypeError):
            Policy('p', 5, 2)

    def test_pauses_none_stand_for_pauses_of_0(self):
        for tries in (1, 2, 3):
            self.same(Policy('p', 5, tries=tries).pauses, (0,) * (tries - 1))
            self.same(Policy('p', 5, tries=tries, pauses=None).pauses, (0,) * (tries - 1))

    def test_pauses_are_none_with_early(self):
        for tries in (2, 3):
            self.same(Policy('p', 5, tries=tries, early=4).pauses, ())

    def test_properties_are_not_set(self):
        policy = Policy('p', 5)
        for field in ('name',) + FIELDS:
            with self.assertRaises(AttributeError):
                setattr(policy, field, getattr(policy, field))


class EqualityTest(Case):
    def test_equal_by_all_seven(self):
        makers = [lambda: Policy('p', 5, tries=3), lambda: Policy('q', 5, tries=3), lambda: Policy('p', 6, tries=3),
                  lambda: Policy('p', 5, tries=2), lambda: Policy('p', 5, tries=3, pauses=(0, 1)),
                  lambda: Policy('p', 5, tries=3, pauses=(1, 0)), lambda: Policy('p', 5, tries=3, early=2),
                  lambda: Policy('p', 5, tries=3, early=3), lambda: Policy('p', 5, tries=3, lossy=True),
                  lambda: Policy('p', 5, tries=3, ending=('deadline',)),
                  lambda: Policy('p', 5, tries=3, ending=('stop', 0)),
                  lambda: Policy('p', 5, tries=3, ending=('stop', 1))]
        for (i, one), (k, other) in itertools.product(enumerate(makers), repeat=2):
            self.assertIs(one() == other(), i == k)
            self.assertIs(one() != other(), i != k)

    def test_pauses_of_0_are_those_left_out(self):
        self.assertEqual(Policy('p', 5, tries=3), Policy('p', 5, tries=3, pauses=(0, 0)))
        self.assertEqual(Policy('p', 5), Policy('p', 5, pauses=()))

    def test_values_of_other_kinds_are_unequal(self):
        policy = Policy('p', 5)
        for value in VALUES + (tuple(fields_of(policy).values()), fields_of(policy)):
            self.assertIs(policy == value, False)
            self.assertIs(policy != value, True)


class NameTest(Case):
    def test_names(self):
        for name in ('a', 'z', 'az', 'abcdefgh', 'zzzzzzzz'):
            self.assertEqual(Policy(name, 1).name, name)

    def test_no_names(self):
        for name in VALUES + ('abcdefghi', 'A', 'aB', 'a1', '1', 'a_', '_', ' ', 'a ', ' a', 'a\n', '\u00e4', '\u00df',
                              'a-b', '`', '{', b'abc', ['a'], ('a',)):
            if not (isinstance(name, str) and name in ('a', 'zz')):
                self.raises(InvalidName, {'value': name}, Policy, name, 5)

    def test_the_name_is_ahead_of_the_fields(self):
        self.raises(InvalidName, {'value': 'P'}, Policy, 'P', 0, tries=0, pauses=0, early=0, lossy=0, ending=0)


class FieldsTest(Case):
    RIGHT = {'limit': 5, 'tries': 3, 'pauses': (1, 2), 'early': None, 'lossy': True, 'ending': ('stop', 3)}

    def wrong(self, field, **changes):
        self.raises(InvalidPolicy, {'field': field}, Policy, 'p', **{**self.RIGHT, **changes})

    def right(self, **changes):
        fields = {**self.RIGHT, **changes}
        policy = Policy('p', **fields)
        for field in FIELDS:
            if fields[field] is not None:
                self.same(getattr(policy, field), fields[field])

    def test_limit(self):
        for limit in (1, 2, 19, 20):
            self.right(limit=limit)
        for limit in (0, 21, -1, 10 ** 29, True, False, None, '5', (5,), [5], Awkward()):
            self.wrong('limit', limit=limit)

    def test_tries(self):
        self.right(tries=1, pauses=())
        self.right(tries=2, pauses=(7,))
        self.right(tries=3, pauses=(7, 8))
        for tries in (0, 4, -1, True, False, None, '2', (2,), [2], Awkward()):
            self.wrong('tries', tries=tries)
            self.wrong('tries', tries=tries, pauses=None)

    def test_pauses(self):
        for pauses in ((0, 0), (8, 8), (0, 8), (8, 0)):
            self.right(pauses=pauses)
        for pauses in ((), (1,), (1, 2, 3), (9, 0), (0, 9), (-1, 0), (0, -1), (True, 0), (0, False), (None, 0), [1, 2],
                       '12', 3, 0, {}, {1: 2, 3: 4}, True, False, (1, '2'), (Awkward(), 1), Awkward(), range(2)):
            self.wrong('pauses', pauses=pauses)
        for tries, many in itertools.product((1, 2, 3), range(5)):
            if many != tries - 1:
                self.wrong('pauses', tries=tries, pauses=(0,) * many)

    def test_pauses_with_early(self):
        for pauses in ((), (0,), (0, 0), (1, 2), [], 0, False):
            for early in (1, 3, 21, 0, True, 'a'):
                self.wrong('pauses', pauses=pauses, early=early)
        self.wrong('pauses', tries=1, pauses=(), early=1)

    def test_early(self):
        for early in (1, 2, 19, 20):
            for tries in (2, 3):
                self.right(pauses=None, early=early, tries=tries)
            self.wrong('early', pauses=None, early=early, tries=1)
        for early in (0, 21, -1, True, False, '3', (3,), [3], Awkward()):
            self.wrong('early', pauses=None, early=early)

    def test_lossy(self):
        self.right(lossy=True)
        self.right(lossy=False)
        for lossy in (0, 1, None, 'True', '', (), [], 2, Awkward()):
            self.wrong('lossy', lossy=lossy)

    def test_ending(self):
        for ending in (('go',), ('deadline',), ('stop', 0), ('stop', 1), ('stop', 19), ('stop', 20)):
            self.right(ending=ending)
        for ending in (('stop', -1), ('stop', 21), ('stop', True), ('stop', False), ('stop', None), ('stop', '1'),
                       ('stop',), ('stop', 1, 1), ('go', 0), ('go', 'go'), ('deadline', 0), ('deadline', 'go'), (), 'go',
                       'deadline', ['go'], ['stop', 1], ('Go',), ('halt',), ('halt', 1), (0,), (None,), None, True, 0,
                       {}, {'go': 1}, ('stop', Awkward()), (Awkward(),), (Awkward(), 1), Awkward(), (('go',),),
                       ('',), ('godeadline',)):
            self.wrong('ending', ending=ending)

    def test_the_first_wrong_field_of_several(self):
        wrong = {'limit': 21, 'tries': 4, 'pauses': 0, 'early': 0, 'lossy': 0, 'ending': 0}
        for many in range(1, 7):
            for fields in itertools.combinations(FIELDS, many):
                changes = {field: wrong[field] for field in fields}
                if 'early' in fields:
                    changes.setdefault('pauses', None)
                self.wrong(fields[0], **changes)


class ChangedTest(Case):
    def test_one_field(self):
        policy = Policy('p', 5, tries=3, pauses=(1, 2), lossy=True, ending=('stop', 3))
        for field, value in (('limit', 6), ('pauses', (3, 4)), ('lossy', False), ('ending', ('go',))):
            changed = policy.changed(**{field: value})
            self.same(fields_of(changed), {**fields_of(policy), field: value})
            self.assertIs(type(changed), Policy)

    def test_several_fields(self):
        policy = Policy('p', 5, tries=3, pauses=(1, 2))
        self.assertEqual(policy.changed(ending=('deadline',), limit=1, lossy=True),
                         Policy('p', 1, tries=3, pauses=(1, 2), lossy=True, ending=('deadline',)))
        self.assertEqual(policy.changed(pauses=(3,), tries=2), Policy('p', 5, tries=2, pauses=(3,)))
        self.assertEqual(policy.changed(early=4, tries=2), Policy('p', 5, tries=2, early=4))

    def test_without_fields(self):
        for policy in (Policy('p', 5, tries=3, pauses=(1, 2)), Policy('p', 5, tries=3, early=2), Policy('p', 5)):
            self.assertEqual(policy.changed(), policy)

    def test_the_policy_itself_stays(self):
        policy = Policy('p', 5, tries=3, pauses=(1, 2))
        ahead = fields_of(policy)
        policy.changed(limit=6, tries=2, lossy=True, ending=('stop', 1))
        self.raises(InvalidPolicy, {'field': 'tries'}, policy.changed, limit=7, tries=0)
        self.same(fields_of(policy), ahead)

    def test_pauses_are_none_with_tries_or_early(self):
        policy = Policy('p', 5, tries=3, pauses=(1, 2))
        self.same(policy.changed(tries=3).pauses, (0, 0))
        self.same(policy.changed(tries=2).pauses, (0,))
        self.same(policy.changed(tries=1).pauses, ())
        self.same(policy.changed(early=None).pauses, (0, 0))
        self.same(policy.changed(early=3).pauses, ())
        self.same(policy.changed(limit=7).pauses, (1, 2))
        self.same(policy.changed(tries=3, pauses=(3, 4)).pauses, (3, 4))
        self.same(policy.changed(tries=2, early=2).pauses, ())

    def test_early_stays_and_goes(self):
        policy = Policy('p', 5, tries=2, early=4)
        self.assertEqual(policy.changed(limit=6), Policy('p', 6, tries=2, early=4))
        self.assertEqual(policy.changed(tries=3), Policy('p', 5, tries=3, early=4))
        self.assertEqual(policy.changed(early=None), Policy('p', 5, tries=2))
        self.assertEqual(policy.changed(early=None, pauses=(3,)), Policy('p', 5, tries=2, pauses=(3,)))
        self.assertEqual(policy.changed(early=1), Policy('p', 5, tries=2, early=1))
        self.assertEqual(policy.changed(pauses=None), policy)

    def test_errors_as_the_class(self):
        policy = Policy('p', 5, tries=3, pauses=(1, 2))
        early = Policy('p', 5, tries=3, early=2)
        self.raises(InvalidPolicy, {'field': 'limit'}, policy.changed, ending=0, limit=0)
        self.raises(InvalidPolicy, {'field': 'tries'}, policy.changed, tries=True)
        self.raises(InvalidPolicy, {'field': 'pauses'}, policy.changed, pauses=(1,))
        self.raises(InvalidPolicy, {'field': 'pauses'}, policy.changed, pauses=(1, 2), early=1)
        self.raises(InvalidPolicy, {'field': 'pauses'}, early.changed, pauses=(0, 0))
        self.raises(InvalidPolicy, {'field': 'pauses'}, early.changed, pauses=())
        self.raises(InvalidPolicy, {'field': 'early'}, early.changed, tries=1)
        self.raises(InvalidPolicy, {'field': 'early'}, policy.changed, early=0)
        self.raises(InvalidPolicy, {'field': 'lossy'}, policy.changed, lossy=1)
        self.raises(InvalidPolicy, {'field': 'ending'}, policy.changed, ending=('stop',))

    def test_words_that_are_no_fields(self):
        policy = Policy('p', 5)
        self.raises(InvalidPolicy, {'field': 'name'}, policy.changed, name='q')
        self.raises(InvalidPolicy, {'field': 'most'}, policy.changed, limit=0, most=1, name='q')
        self.raises(InvalidPolicy, {'field': 'name'}, policy.changed, name='q', most=1, limit=6)
        self.raises(InvalidPolicy, {'field': 'Limit'}, policy.changed, Limit=6)


if __name__ == '__main__':
    unittest.main()
