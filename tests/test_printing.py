import unittest

from helpers import Case
from mostcalls.policies import Policy
from mostcalls.printing import format_system
from mostcalls.systems import System


def lines(policies, *rows):
    return format_system(System(policies, rows)).split('\n')


class PoliciesTest(Case):
    def line(self, policy):
        told = lines([policy], ('a', ()))
        self.assertEqual(told[1:], ['service a', 'end'])
        return told[0]

    def test_one_try(self):
        self.same(self.line(Policy('p', 5)), 'policy p limit 5 tries 1 go')
        self.same(self.line(Policy('abcdefgh', 20, ending=('deadline',))), 'policy abcdefgh limit 20 tries 1 deadline')
        self.same(self.line(Policy('p', 1, ending=('stop', 0))), 'policy p limit 1 tries 1 stop 0')
        self.same(self.line(Policy('p', 1, lossy=True, ending=('stop', 20))), 'policy p limit 1 tries 1 lossy stop 20')

    def test_pauses(self):
        self.same(self.line(Policy('p', 5, tries=2)), 'policy p limit 5 tries 2 pauses 0 go')
        self.same(self.line(Policy('p', 5, tries=3)), 'policy p limit 5 tries 3 pauses 0 0 go')
        self.same(self.line(Policy('p', 5, tries=2, pauses=(8,), lossy=True)),
                  'policy p limit 5 tries 2 pauses 8 lossy go')
        self.same(self.line(Policy('p', 5, tries=3, pauses=(4, 7), ending=('stop', 12))),
                  'policy p limit 5 tries 3 pauses 4 7 stop 12')

    def test_early(self):
        self.same(self.line(Policy('p', 5, tries=2, early=1)), 'policy p limit 5 tries 2 early 1 go')
        self.same(self.line(Policy('p', 5, tries=3, early=20, lossy=True, ending=('deadline',))),
                  'policy p limit 5 tries 3 early 20 lossy deadline')

    def test_policies_in_order(self):
        told = lines([Policy('q', 2), Policy('p', 3), Policy('r', 4)], ('a', ()))
        self.same(told, ['policy q limit 2 tries 1 go', 'policy p limit 3 tries 1 go', 'policy r limit 4 tries 1 go',
                         'service a', 'end'])


class ServicesTest(Case):
    def test_without_policies(self):
        self.same(format_system(System([], [('a', ())])), 'service a\nend')
        self.same(format_system(system=System([], [('b', ()), ('a', ())])), 'service b\nend\nservice a\nend')

    def test_all_kinds_of_parts(self):
        block = (('run', 0, 20), ('risk',), ('call', 'a', 'p'), ('want', 'a', 'p'), ('maybe', (('risk',), ('run', 3, 3))),
                 ('both', (('risk',),), (('call', 'a', 'p'),)))
        self.same(lines([Policy('p', 5)], ('a', (('run', 1, 2),)), ('b', block)), [
            'policy p limit 5 tries 1 go',
            'service a',
            '  run 1 2',
            'end',
            'service b',
            '  run 0 20',
            '  risk',
            '  call a p',
            '  want a p',
            '  maybe',
            '    risk',
            '    run 3 3',
            '  end',
            '  both',
            '    risk',
            '  beside',
            '    call a p',
            '  end',
            'end',
        ])

    def test_nested(self):
        block = (('maybe', (('both', (('run', 1, 1),), (('risk',),)), ('maybe', ()))),
                 ('both', (), (('maybe', (('risk',),)), ('both', (), ()))))
        self.same(lines([], ('a', block)), [
            'service a',
            '  maybe',
            '    both',
            '      run 1 1',
            '    beside',
            '      risk',
            '    end',
            '    maybe',
            '    end',
            '  end',
            '  both',
            '  beside',
            '    maybe',
            '      risk',
            '    end',
            '    both',
            '    beside',
            '    end',
            '  end',
            'end',
        ])


if __name__ == '__main__':
    unittest.main()
