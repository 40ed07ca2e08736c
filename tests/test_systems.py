import itertools
import unittest

from helpers import VALUES, Awkward, Case
from mostcalls.errors import InvalidPart, InvalidPolicies, InvalidServices, TooLong, UnknownName
from mostcalls.policies import Policy
from mostcalls.systems import System

P = Policy('p', 5, tries=2, pauses=(3,))
Q = Policy('q', 4, tries=3, early=2)
RISK = ('risk',)
CALL = ('call', 'a', 'p')


def nested(depth, inner=()):
    """a part with so many others around the innermost block."""
    part = ('maybe', inner)
    for _ in range(depth - 1):
        part = ('maybe', (part,))
    return part


def three():
    return System([P, Q], [
        ('b', (('run', 2, 7), ('maybe', (('run', 1, 3), RISK)))),
        ('a', (('want', 'b', 'q'), ('both', (('call', 'b', 'p'),), (('run', 0, 20),)))),
        ('c', (('call', 'b', 'q'), ('maybe', (('call', 'a', 'p'), ('want', 'a', 'q'))))),
    ])


class ReadingTest(Case):
    def test_lists_and_tuples_as_arguments(self):
        rows = [('a', (RISK,)), ('b', (CALL,))]
        systems = [System(policies, services) for policies in ([P], (P,)) for services in (rows, tuple(rows))]
        for system in systems:
            self.assertEqual(system, systems[0])
        self.assertEqual(System(policies=[P], services=rows), systems[0])

    def test_names_in_order(self):
        system = three()
        self.same(system.policies(), ['p', 'q'])
        self.same(system.services(), ['b', 'a', 'c'])
        self.same(list(system), ['b', 'a', 'c'])
        self.same([name for name in system], ['b', 'a', 'c'])
        self.assertEqual(len(system), 3)
        self.same(System([Q, P], [('z', ()), ('y', ())]).policies(), ['q', 'p'])
        self.same(System([], [('z', ()), ('y', ())]).services(), ['z', 'y'])

    def test_blocks_and_policies(self):
        system = three()
        self.same(system['b'], (('run', 2, 7), ('maybe', (('run', 1, 3), RISK))))
        self.same(system['c'][0], ('call', 'b', 'q'))
        self.assertEqual(system.policy('p'), P)
        self.assertEqual(system.policy(name='q'), Q)
        self.same(System((), (('a', ()),))['a'], ())

    def test_membership_of_any_value(self):
        system = three()
        for name in ('a', 'b', 'c'):
            self.assertIs(name in system, True)
        for value in VALUES + ('p', 'q', 'd', '', 'ab', ('a',), ['a'], b'b'):
            if not (isinstance(value, str) and value == 'a'):
                self.assertIs(value in system, False)
                self.assertIs(value not in system, True)

    def test_callees(self):
        system = three()
        self.same(system.callees('b'), [])
        self.same(system.callees('a'), ['b'])
        self.same(system.callees('c'), ['a', 'b'])
        system = System([P], [('z', ()), ('y', ()), ('x', ()), ('w', (
            ('call', 'z', 'p'), ('want', 'x', 'p'), ('both', (('want', 'y', 'p'),), (('maybe', (('call', 'z', 'p'),)),)),
            ('call', 'x', 'p')))])
        self.same(system.callees(name='w'), ['x', 'y', 'z'])
        self.same(system.callees('y'), [])

    def test_what_is_returned_can_be_changed(self):
        system = three()
        for get in (system.policies, system.services, lambda: system.callees('c')):
            ahead = list(get())
            get().clear()
            get().append('x')
            self.same(get(), ahead)
        self.assertEqual(system, three())

    def test_what_is_handed_in_can_be_changed(self):
        policies = [P, Q]
        rows = [('a', (RISK,)), ('b', (CALL,))]
        system = System(policies, rows)
        policies.clear()
        rows.append(('c', ()))
        rows[0] = ('d', ())
        self.assertEqual(system, System([P, Q], [('a', (RISK,)), ('b', (CALL,))]))
        self.same(system.services(), ['a', 'b'])
        self.same(system.policies(), ['p', 'q'])
        self.assertEqual(system.policy('p'), P)

    def test_arguments_stay(self):
        policies, rows = [P, Q], [('a', (RISK,)), ('b', (CALL,))]
        system = System(policies, rows)
        system.with_service('c', ())
        system.with_block('a', ())
        system.with_policy(P.changed(limit=1))
        self.assertEqual(policies, [P, Q])
        self.assertEqual(rows, [('a', (RISK,)), ('b', (CALL,))])
        self.assertEqual(system, System(policies, rows))

    def test_values_that_are_no_names(self):
        system = three()
        gets = (system.policy, system.span, system.callees, lambda name: system[name],
                lambda name: system.with_block(name, ()))
        for get in gets:
            for value in VALUES + ('d', 'x', '', ('a',), ['a'], 0, 1):
                if not (isinstance(value, str) and value == 'a'):
                    self.raises(UnknownName, {'value': value}, get, value)
        for name in ('a', 'b', 'c'):
            self.raises(UnknownName, {'value': name}, system.policy, name)
        for name in ('p', 'q'):
            for get in gets[1:]:
                self.raises(UnknownName, {'value': name}, get, name)


class EqualityTest(Case):
    def test_equal_if_policies_and_services_are_in_order(self):
        makers = [
            three,
            lambda: System([P, Q], [('a', ()), ('b', ())]),
            lambda: System([Q, P], [('a', ()), ('b', ())]),
            lambda: System([P, Q], [('b', ()), ('a', ())]),
            lambda: System([P], [('a', ()), ('b', ())]),
            lambda: System([P, Q], [('a', ())]),
            lambda: System([P, Q.changed(limit=5)], [('a', ()), ('b', ())]),
            lambda: System([P, Q], [('a', ()), ('b', (RISK,))]),
            lambda: System([P, Q], [('a', ()), ('c', ())]),
        ]
        for (i, one), (k, other) in itertools.product(enumerate(makers), repeat=2):
            self.assertIs(one() == other(), i == k)
            self.assertIs(one() != other(), i != k)

    def test_values_of_other_kinds_are_unequal(self):
        system = three()
        for value in VALUES + (P, ([P, Q], system.services()), ['b', 'a', 'c']):
            self.assertIs(system == value, False)
            self.assertIs(system != value, True)


class SpanTest(Case):
    def span(self, *block):
        return System([P, Q, Policy('o', 7), Policy('t', 20, tries=3, pauses=(8, 8)),
                       Policy('e', 3, tries=2, early=20)], [('a', ()), ('b', block)]).span('b')

    def test_span_of_every_kind_of_part(self):
        self.assertEqual(self.span(), 0)
        self.assertEqual(self.span(('run', 2, 7)), 7)
        self.assertEqual(self.span(RISK), 0)
        self.assertEqual(self.span(('maybe', ())), 0)
        self.assertEqual(self.span(('maybe', (('run', 1, 3), ('run', 0, 2)))), 5)
        self.assertEqual(self.span(('both', (('run', 1, 3),), (('run', 0, 2),))), 3)
        self.assertEqual(self.span(('both', (('run', 1, 3),), (('run', 0, 2), ('run', 2, 2)))), 4)
        self.assertEqual(self.span(('both', (), ())), 0)
        for kind in ('call', 'want'):
            self.assertEqual(self.span((kind, 'a', 'o')), 7)
            self.assertEqual(self.span((kind, 'a', 'p')), 13)
            self.assertEqual(self.span((kind, 'a', 't')), 76)
            self.assertEqual(self.span((kind, 'a', 'q')), 8)
            self.assertEqual(self.span((kind, 'a', 'e')), 23)

    def test_sum_of_the_parts(self):
        self.assertEqual(self.span(('run', 2, 7), RISK, ('call', 'a', 'p'), ('want', 'a', 'q')), 28)
        self.assertEqual(self.span(('maybe', (('both', (('run', 0, 4),), (('call', 'a', 'o'),)), ('run', 1, 1))),
                                   ('both', (('maybe', (('run', 9, 9),)),), (('run', 3, 8),))), 17)
        self.same(three().span(name='a'), 8 + 20)
        self.assertEqual([three().span(name) for name in 'bac'], [10, 28, 29])

    def test_too_long_at_401(self):
        long = Policy('t', 20, tries=3, pauses=(8, 8))
        at_most = (('call', 'a', 't'),) * 5 + (('run', 0, 20),)
        self.assertEqual(System([long], [('a', ()), ('b', at_most)]).span('b'), 400)
        for more in ((('run', 1, 1),), (('maybe', (('run', 0, 1),)),), (('both', (('run', 0, 1),), ()),)):
            for block in (at_most + more, more + at_most):
                self.raises(TooLong, {'service': 'b'}, System, [long], [('a', ()), ('b', block)])
        two = (('maybe', at_most[:5]),) + (('both', at_most[:2], at_most[:1]),)
        self.raises(TooLong, {'service': 'b'}, System, [long], [('a', ()), ('b', two)])
        self.assertEqual(System([long], [('a', ()), ('b', at_most[:5] + (RISK,))]).span('b'), 380)

    def test_too_long_with_early(self):
        policy = Policy('e', 20, tries=3, early=20)
        block = (('want', 'a', 'e'),) * 6 + (('run', 0, 20), ('run', 0, 20))
        self.assertEqual(System([policy], [('a', ()), ('b', block)]).span('b'), 400)
        block = block + (('run', 0, 1),)
        self.raises(TooLong, {'service': 'b'}, System, [policy], [('a', ()), ('b', block)])


class PoliciesTest(Case):
    def invalid(self, number, policies, services=(('a', ()),)):
        self.raises(InvalidPolicies, {'number': number}, System, policies, services)

    def test_no_list_or_tuple(self):
        for value in VALUES + ({'p': P}, P, iter([P]), 'p', {P.name}):
            if not isinstance(value, (list, tuple)):
                self.invalid(None, value)

    def test_at_most_8(self):
        many = [Policy('p' + name, 3) for name in 'abcdefghi']
        self.assertEqual(len(System(many[:8], [('a', ())]).policies()), 8)
        self.invalid(None, many)
        self.invalid(None, tuple(many))
        self.invalid(None, [P] * 9)
        self.invalid(None, [None] * 9)
        self.assertEqual(System([], [('a', ())]).policies(), [])

    def test_the_first_that_is_none(self):
        for value in VALUES + ('p', ('p', 5)):
            self.invalid(0, [value])
            self.invalid(1, (P, value))
            self.invalid(2, [P, Q, value, value])

    def test_names_once(self):
        self.invalid(1, [P, P])
        self.invalid(2, [P, Q, P.changed(limit=9), None])
        self.invalid(2, [P, Q, Q])
        self.invalid(1, [P, None, P])

    def test_ahead_of_services(self):
        self.invalid(None, None, None)
        self.invalid(0, [None], None)


class ServicesTest(Case):
    def invalid(self, number, services):
        self.raises(InvalidServices, {'number': number}, System, [P], services)

    def test_no_list_or_tuple(self):
        for value in VALUES + ({'a': ()}, 'a', iter([('a', ())]), three()):
            if not isinstance(value, (list, tuple)):
                self.invalid(None, value)

    def test_1_to_6(self):
        rows = [(name, ()) for name in 'abcdefg']
        self.invalid(None, [])
        self.invalid(None, ())
        self.assertEqual(len(System([P], rows[:1])), 1)
        self.assertEqual(len(System([P], rows[:6])), 6)
        self.invalid(None, rows)
        self.invalid(None, [None] * 7)

    def test_the_first_that_is_none(self):
        wrong = [value for value in VALUES] + [
            ['a', ()], ('a',), ('a', (), ()), ('A', ()), ('', ()), ('abcdefghi', ()), (None, ()), (1, ()), (Awkward(), ()),
            ('a', []), ('a', [RISK]), ('a', None), ('a', 'risk'), ('a', {}), ('a', Awkward()), (('a',), ()), ((), 'a'),
            (['a'], ()), (b'a', ())]
        for value in wrong:
            self.invalid(0, [value])
            self.invalid(0, (value, ('a', ())))
            self.invalid(1, [('b', ()), value])
            self.invalid(2, [('b', ()), ('c', ()), value, value])

    def test_names_once(self):
        self.invalid(1, [('a', ()), ('a', ())])
        self.invalid(2, [('a', ()), ('b', ()), ('a', (RISK,))])
        self.invalid(2, [('a', ()), ('b', ()), ('b', ()), None])
        self.invalid(1, [('a', ()), None, ('a', ())])

    def test_a_service_can_have_the_name_of_a_policy(self):
        system = System([P], [('p', ()), ('b', (('call', 'p', 'p'),))])
        self.assertEqual(system.callees('b'), ['p'])

    def test_ahead_of_parts(self):
        self.invalid(1, [('a', (None,)), None])
        self.invalid(1, [('a', (('call', 'x', 'p'),)), ('a', ())])
        self.invalid(None, [('a', (None,))] * 7)


WRONG_PARTS = [value for value in VALUES] + [
    ('run',), ('run', 1), ('run', 1, 2, 3), ('run', -1, 2), ('run', 0, 21), ('run', 3, 2), ('run', 21, 21), ('run', 20, 0),
    ('run', True, 2), ('run', 0, True), ('run', False, 2), ('run', 0, False), ('run', None, 2), ('run', 0, None),
    ('run', '1', '2'), ('run', Awkward(), 2), ('run', 0, Awkward()), ('run', (0,), 2), ('run', -2, -1),
    ('risk', 1), ('risk', ()), ('risk', 'a'), ('risk', None), ['risk'], 'risk', ('Risk',), ('',),
    ('call',), ('call', 'a'), ('call', 'a', 'p', 'p'), ('call', 'A', 'p'), ('call', 'a', 'P'), ('call', '', 'p'),
    ('call', 'a', ''), ('call', 'abcdefghi', 'p'), ('call', 'a', 'abcdefghi'), ('call', None, 'p'), ('call', 'a', None),
    ('call', 1, 'p'), ('call', 'a', 1), ('call', Awkward(), 'p'), ('call', 'a', Awkward()), ('call', ['a'], 'p'),
    ('call', 'a', ('p',)), ('call', 'a', P), ['call', 'a', 'p'],
    ('want',), ('want', 'a'), ('want', 'a', 'p', 1), ('want', 'A', 'p'), ('want', 'a', 'p1'), ('want', None, 'p'),
    ('want', 'a', True), ('want', Awkward(), 'p'), ('want', 'a', Awkward()), ('want', 'a ', 'p'),
    ('maybe',), ('maybe', (), ()), ('maybe', []), ('maybe', [RISK]), ('maybe', None), ('maybe', 'risk'), ('maybe', {}),
    ('maybe', RISK, RISK), ('maybe', Awkward()), ['maybe', ()],
    ('both',), ('both', ()), ('both', (), (), ()), ('both', [], ()), ('both', (), []), ('both', None, ()),
    ('both', (), None), ('both', Awkward(), ()), ('both', (), Awkward()), ('both', 'risk', ()), ['both', (), ()],
    (None,), (Awkward(), 1, 2), (('run',), 1, 2), (1, 2, 3), ('runs', 1, 2), ('Run', 1, 2), ('calls', 'a', 'p'),
    ('beside',), ('end',), (RISK,), ((RISK,),), (b'risk',),
]


class PartsTest(Case):
    def invalid(self, place, *block, service='b'):
        self.raises(InvalidPart, {'service': service, 'place': place}, System, [P], [('a', ()), (service, block)])

    def right(self, *block):
        self.same(System([P], [('a', ()), ('b', block)])['b'], block)

    def test_right_parts(self):
        for part in (('run', 0, 0), ('run', 20, 20), ('run', 0, 20), ('run', 7, 8), RISK, CALL, ('want', 'a', 'p'),
                     ('maybe', ()), ('maybe', (RISK,)), ('both', (), ()), ('both', (RISK,), (CALL, CALL))):
            self.right(part)
            self.right(RISK, part)
            self.right(('maybe', (part,)))
            self.right(('both', (part,), (part,)))

    def test_each_kind_malformed(self):
        for part in WRONG_PARTS:
            self.invalid(0, part)
            self.invalid(0, part, RISK, None)
            self.invalid(2, RISK, CALL, part, part)
            self.invalid(1, ('maybe', (part,)))
            self.invalid(2, ('both', (RISK,), (part, RISK)))
            self.invalid(3, ('both', (CALL,), (('maybe', (part,)),)))

    def test_parts_are_counted_as_they_begin(self):
        self.invalid(1, ('maybe', (None, None)), None)
        self.invalid(2, ('maybe', (RISK, None)), None)
        self.invalid(3, ('maybe', (RISK, RISK)), None)
        self.invalid(1, ('maybe', ()), None)
        self.invalid(1, ('both', (None,), (None,)), None)
        self.invalid(2, ('both', (RISK,), (None,)), None)
        self.invalid(3, ('both', (RISK,), (RISK,)), None)
        self.invalid(1, ('both', (), (None,)), None)
        self.invalid(5, ('both', (('maybe', (RISK,)),), (('maybe', (RISK,)), None)), None)
        self.invalid(6, RISK, ('both', (RISK, CALL), (RISK,)), ('maybe', (None,)))

    def test_what_stands_inside_is_looked_at_by_itself(self):
        self.invalid(1, ('maybe', (1, 2)))
        self.invalid(1, ('both', (None,), (None,)))
        self.invalid(1, ('both', (), (('run',),)))
        self.invalid(1, ('maybe', ('risk',)))

    def test_nested_too_deep(self):
        self.right(nested(2, (RISK, CALL)))
        self.right(('both', (nested(1),), (('both', (RISK,), (RISK,)),)))
        for inner in ((), (RISK,), (None,), (nested(1),)):
            self.invalid(2, nested(3, inner))
        self.invalid(2, ('maybe', (('maybe', (('both', (), ()),)),)))
        self.invalid(2, ('both', (('both', (('maybe', ()),), ()),), ()))
        self.invalid(2, ('both', (), (('both', (), (('both', (), ()),)),)))
        self.invalid(4, RISK, ('both', (RISK,), (('maybe', (('maybe', ()),)),)))
        self.invalid(3, ('maybe', (('maybe', (RISK, ('maybe', ()))),)))
        self.invalid(2, nested(30))

    def test_wrong_parts_are_told_ahead_of_deep_ones_behind_them(self):
        self.invalid(1, ('maybe', (None, nested(2))))
        self.invalid(2, nested(3), None)

    def test_the_thirteenth_part(self):
        self.right(*[RISK] * 12)
        self.invalid(12, *[RISK] * 13)
        self.invalid(12, *[RISK] * 40)
        self.invalid(12, *[RISK] * 12, None)
        self.invalid(12, *[RISK] * 12, nested(3))
        self.invalid(11, *[RISK] * 11, None, RISK)
        self.right(('maybe', (RISK,) * 11))
        self.invalid(12, ('maybe', (RISK,) * 12))
        self.right(('both', (RISK,) * 5, (RISK,) * 6))
        self.invalid(12, ('both', (RISK,) * 5, (RISK,) * 7))
        self.invalid(12, ('both', (RISK,) * 12, ()))
        self.right(*[nested(2)] * 6)
        self.invalid(12, *[nested(2)] * 6, ('maybe', ()))
        self.invalid(12, *[nested(2)] * 7)
        self.right(('both', (('maybe', (RISK,) * 4),), (('maybe', (RISK,) * 5),)))
        self.invalid(12, ('both', (('maybe', (RISK,) * 4),), (('maybe', (RISK,) * 5), RISK)))

    def test_the_service_is_told(self):
        self.invalid(0, None, service='x')
        self.raises(InvalidPart, {'service': 'a', 'place': 1}, System, [], [('a', (RISK, None)), ('b', (None,))])


class NamesTest(Case):
    def unknown(self, name, *block, policies=(P, Q)):
        self.raises(UnknownName, {'value': name}, System, policies, [('a', ()), ('b', block), ('c', ())])

    def test_callees_stand_ahead(self):
        for kind in ('call', 'want'):
            for name in ('b', 'c', 'd', 'p'):
                self.unknown(name, (kind, name, 'p'))
                self.unknown(name, RISK, ('maybe', ((kind, name, 'p'),)))
                self.unknown(name, ('both', (CALL,), (('maybe', ((kind, name, 'p'),)),)))

    def test_policies_are_there(self):
        for kind in ('call', 'want'):
            for name in ('a', 'b', 'x'):
                self.unknown(name, (kind, 'a', name))
                self.unknown(name, ('both', (CALL,), ((kind, 'a', name),)))
        self.unknown('p', CALL, policies=())

    def test_part_by_part_the_callee_first(self):
        self.unknown('x', ('call', 'x', 'y'))
        self.unknown('y', ('call', 'a', 'y'), ('call', 'x', 'p'))
        self.unknown('x', ('call', 'x', 'p'), ('call', 'a', 'y'))
        self.unknown('x', ('maybe', (('want', 'x', 'y'),)), ('call', 'z', 'p'))
        self.unknown('z', ('both', (), (('call', 'a', 'z'),)), ('call', 'x', 'p'))
        self.unknown('x', ('both', (('call', 'x', 'p'),), (('call', 'y', 'p'),)))


class OrderTest(Case):
    FAR = (('call', 'a', 't'),) * 6

    def test_parts_then_names_then_span(self):
        long = Policy('t', 20, tries=3, pauses=(8, 8))
        rows = [('a', ())]
        self.raises(InvalidPart, {'service': 'b', 'place': 7}, System, [long],
                    rows + [('b', self.FAR + (('call', 'x', 't'), None))])
        self.raises(UnknownName, {'value': 'x'}, System, [long], rows + [('b', self.FAR + (('call', 'x', 't'),))])
        self.raises(UnknownName, {'value': 'x'}, System, [long], rows + [('b', (('call', 'a', 'x'),) + self.FAR)])
        self.raises(TooLong, {'service': 'b'}, System, [long], rows + [('b', self.FAR)])

    def test_service_by_service(self):
        long = Policy('t', 20, tries=3, pauses=(8, 8))
        too_long, unknown, invalid = self.FAR, (('call', 'x', 't'),), (None,)
        wanted = [(too_long, TooLong, {'service': 'b'}), (unknown, UnknownName, {'value': 'x'}),
                  (invalid, InvalidPart, {'service': 'b', 'place': 0})]
        for (block, error, fields), (other, _, _) in itertools.product(wanted, repeat=2):
            self.raises(error, fields, System, [long], [('a', ()), ('b', block), ('c', other)])


class WithTest(Case):
    def test_with_policy(self):
        system = three()
        policy = Policy('q', 1, ending=('deadline',))
        changed = system.with_policy(policy)
        self.same(changed.policies(), ['p', 'q'])
        self.assertEqual(changed.policy('q'), policy)
        self.assertEqual(changed.policy('p'), P)
        self.assertEqual([changed[name] for name in changed], [system[name] for name in system])
        self.assertEqual(changed.span('c'), 15)
        self.assertEqual(system, three())
        self.assertEqual(changed, System([P, policy], [(name, system[name]) for name in system]))
        self.assertEqual(system.with_policy(policy=P), system)

    def test_with_policy_errors(self):
        system = three()
        for value in VALUES + ('p',):
            self.raises(InvalidPolicies, {'number': None}, system.with_policy, value)
        for name in ('r', 'a', 'pp'):
            self.raises(UnknownName, {'value': name}, system.with_policy, Policy(name, 3))
        rows = [('a', ()), ('b', (('call', 'a', 'p'),) * 8), ('c', (('call', 'a', 'p'),) * 9)]
        system = System([Policy('p', 20)], rows)
        self.assertEqual(system.with_policy(Policy('p', 20, tries=2)).span('c'), 360)
        self.raises(TooLong, {'service': 'b'}, system.with_policy, Policy('p', 20, tries=3))
        self.raises(TooLong, {'service': 'c'}, system.with_policy, Policy('p', 20, tries=2, pauses=(8,)))
        self.assertEqual(system, System([Policy('p', 20)], rows))

    def test_with_block(self):
        system = three()
        changed = system.with_block('a', (RISK,))
        self.same(changed.services(), ['b', 'a', 'c'])
        self.same(changed['a'], (RISK,))
        self.same(changed['c'], system['c'])
        self.assertEqual(changed.span('a'), 0)
        self.assertEqual(changed.callees('a'), [])
        self.assertEqual(changed.policies(), ['p', 'q'])
        self.assertEqual(system, three())
        self.assertEqual(system.with_block(name='a', block=system['a']), system)

    def test_with_block_errors(self):
        system = three()
        self.raises(UnknownName, {'value': 'x'}, system.with_block, 'x', None)
        for value in VALUES:
            if not isinstance(value, tuple):
                self.raises(InvalidServices, {'number': 1}, system.with_block, 'a', value)
                self.raises(InvalidServices, {'number': 0}, system.with_block, 'b', value)
        self.raises(InvalidPart, {'service': 'c', 'place': 1}, system.with_block, 'c', (RISK, None))
        self.raises(UnknownName, {'value': 'c'}, system.with_block, 'a', (('call', 'c', 'p'),))
        self.raises(UnknownName, {'value': 'r'}, system.with_block, 'c', (('call', 'a', 'r'),))
        system = System([Policy('p', 20, tries=3)], [('a', ()), ('b', ())])
        self.raises(TooLong, {'service': 'b'}, system.with_block, 'b', (CALL,) * 7)
        self.assertEqual(system['b'], ())

    def test_with_service(self):
        system = three()
        more = system.with_service('d', (('call', 'c', 'p'),))
        self.same(more.services(), ['b', 'a', 'c', 'd'])
        self.same(more['d'], (('call', 'c', 'p'),))
        self.assertEqual(more.policies(), ['p', 'q'])
        self.assertEqual(system, three())
        self.assertEqual(system.with_service(name='d', block=(('call', 'c', 'p'),)), more)

    def test_with_service_errors(self):
        system = three()
        for name in ('a', 'b', 'c', 'A', '', None, 1, Awkward(), ['d']):
            self.raises(InvalidServices, {'number': 3}, system.with_service, name, ())
        for value in VALUES:
            if not isinstance(value, tuple):
                self.raises(InvalidServices, {'number': 3}, system.with_service, 'd', value)
        self.raises(InvalidPart, {'service': 'd', 'place': 0}, system.with_service, 'd', (None,))
        self.raises(UnknownName, {'value': 'd'}, system.with_service, 'd', (('call', 'd', 'p'),))
        self.raises(UnknownName, {'value': 'r'}, system.with_service, 'd', (('call', 'a', 'r'),))
        long = System([Policy('p', 20, tries=3)], [('a', ())])
        self.assertEqual(long.with_service('b', (CALL,) * 6).span('b'), 360)
        self.raises(TooLong, {'service': 'b'}, long.with_service, 'b', (CALL,) * 7)
        full = system.with_service('d', ()).with_service('e', ()).with_service('f', ())
        self.assertEqual(len(full), 6)
        self.raises(InvalidServices, {'number': None}, full.with_service, 'g', ())
        self.raises(InvalidServices, {'number': None}, full.with_service, 'a', None)


if __name__ == '__main__':
    unittest.main()
