import itertools
import unittest

from helpers import VALUES, Case
from samples import some_system
from mostcalls.errors import (InvalidName, InvalidPart, InvalidPolicies, InvalidPolicy, InvalidServices, InvalidText,
                              TooLong, UnknownName)
from mostcalls.policies import Policy
from mostcalls.printing import format_system
from mostcalls.systems import System
from mostcalls.texts import parse_system

TEXT = '''policy p limit 5 tries 3 pauses 4 7 lossy stop 12
policy q limit 20 tries 2 early 3 deadline
service a
  run 1 2
  risk
end
service b
  call a p
  maybe
    want a q
    both
      risk
    beside
      run 0 0
      run 3 20
    end
  end
  both
  beside
    maybe
    end
  end
end'''
SYSTEM = System(
    [Policy('p', 5, tries=3, pauses=(4, 7), lossy=True, ending=('stop', 12)),
     Policy('q', 20, tries=2, early=3, ending=('deadline',))],
    [('a', (('run', 1, 2), ('risk',))),
     ('b', (('call', 'a', 'p'),
            ('maybe', (('want', 'a', 'q'), ('both', (('risk',),), (('run', 0, 0), ('run', 3, 20))))),
            ('both', (), (('maybe', ()),))))])
LINES = TEXT.split('\n')


class ReadingTest(Case):
    def test_a_text(self):
        self.assertEqual(parse_system(TEXT), SYSTEM)
        self.assertEqual(parse_system(text=TEXT), SYSTEM)
        self.same(format_system(parse_system(TEXT)), TEXT)
        self.same(parse_system(TEXT)['b'], SYSTEM['b'])

    def test_policies_are_read_back(self):
        for tries, lossy, ending in itertools.product((1, 2, 3), (False, True), (('go',), ('deadline',), ('stop', 0),
                                                                                 ('stop', 20))):
            fields = [{}, {'pauses': (8, 1)[:tries - 1]}, {'early': 1}, {'early': 20}]
            for more in fields if tries > 1 else fields[:1]:
                policy = Policy('name', 20, tries=tries, lossy=lossy, ending=ending, **more)
                system = System([policy, Policy('p', 1)], [('a', ())])
                self.assertEqual(parse_system(format_system(system)), system)
                self.assertEqual(parse_system(format_system(system)).policy('name'), policy)

    def test_systems_are_read_back(self):
        for seed in range(300):
            system = some_system(seed, services=1 + seed % 6, length=4, short=seed % 2 == 0)
            self.assertEqual(parse_system(format_system(system)), system)

    def test_the_most_of_all(self):
        policies = [Policy(name * 8, 20, tries=3) for name in 'abcdefgh']
        system = System(policies, [(name * 8, (('run', 20, 20),) * 12) for name in 'uvwxyz'])
        self.assertEqual(parse_system(format_system(system)), system)

    def test_other_indentation(self):
        self.assertEqual(parse_system('\n'.join(line.lstrip() for line in LINES)), SYSTEM)
        self.assertEqual(parse_system('\n'.join('       ' + line for line in LINES)), SYSTEM)
        odd = '\n'.join(' ' * (number * 7 % 5) + line.lstrip() for number, line in enumerate(LINES))
        self.assertEqual(parse_system(odd), SYSTEM)

    def test_pauses_left_out(self):
        for tries in (1, 2, 3):
            for more, fields in (('', {}), ('lossy ', {'lossy': True})):
                system = parse_system(f'policy p limit 3 tries {tries} {more}stop 4\nservice a\nend')
                self.assertEqual(system.policy('p'), Policy('p', 3, tries=tries, ending=('stop', 4), **fields))

    def test_words_of_the_form_as_names(self):
        text = ('policy pauses limit 3 tries 2 early 4 lossy go\npolicy early limit 1 tries 1 deadline\nservice end\nend\n'
                'service both\n  call end pauses\n  want end early\nend\nservice service\nmaybe\ncall both early\nend\nend')
        system = System([Policy('pauses', 3, tries=2, early=4, lossy=True), Policy('early', 1, ending=('deadline',))],
                        [('end', ()), ('both', (('call', 'end', 'pauses'), ('want', 'end', 'early'))),
                         ('service', (('maybe', (('call', 'both', 'early'),)),))])
        self.assertEqual(parse_system(text), system)


class NoTextTest(Case):
    def test_any_value(self):
        for value in VALUES + (TEXT.encode(), LINES, SYSTEM):
            if not isinstance(value, str):
                self.raises(InvalidText, {'line': None}, parse_system, value)


class LinesTest(Case):
    def wrong(self, line, text):
        self.raises(InvalidText, {'line': line}, parse_system, text)

    def in_policy(self, text, is_right=False):
        """the text of a policy's line cannot stand, neither first nor second."""
        whole = [text, 'service a', 'end']
        if is_right:
            parse_system('\n'.join(whole))
        else:
            self.wrong(0, '\n'.join(whole))
            self.wrong(1, '\n'.join(['policy o limit 1 tries 1 go'] + whole))
            self.wrong(0, text)

    def in_block(self, text, is_right=False):
        """the line cannot stand as a part."""
        head = ['policy p limit 5 tries 1 go', 'service a', 'end', 'service b']
        for inside, behind in (([], []), (['maybe'], ['end']), (['both'], ['beside', 'end']),
                               (['both', 'risk', 'beside'], ['end'])):
            whole = '\n'.join(head + inside + [text] + behind + ['end'])
            if is_right:
                parse_system(whole)
            else:
                self.wrong(len(head) + len(inside), whole)

    def test_empty_lines(self):
        self.wrong(0, '')
        self.wrong(0, ' ')
        self.wrong(0, '\n' + TEXT)
        self.wrong(len(LINES), TEXT + '\n')
        self.wrong(len(LINES), TEXT + '\n   ')
        for number in range(len(LINES)):
            for line in ('', ' ', '    '):
                self.wrong(number, '\n'.join(LINES[:number] + [line] + LINES[number:]))

    def test_spaces(self):
        for number, line in enumerate(LINES):
            wrong = [line + ' ', line + '  ', '\t' + line]
            if line.split()[0] not in ('service', 'call', 'want'):
                # Behind a name, other signs are of the name.
                wrong += [line + '\t', line + '\r', line + '\x0b']
            words = line.split()
            for place in range(1, len(words)):
                wrong.append(' '.join(words[:place]) + '  ' + ' '.join(words[place:]))
                wrong.append(' '.join(words[:place]) + '\t' + ' '.join(words[place:]))
            for other in wrong:
                self.wrong(number, '\n'.join(LINES[:number] + [other] + LINES[number + 1:]))

    def test_a_space_at_the_end_of_names(self):
        for line in ('service a ', 'service  a', 'service', 'service ', 'service a b', 'Service a', 'servicea'):
            self.wrong(0, line + '\nend')
        for line in ('call a p ', 'call a  p', 'want  a p', 'want a p '):
            self.in_block(line)

    def test_only_line_feeds_end_lines(self):
        self.raises(InvalidServices, {'number': 0}, parse_system, 'service a\rb\nend')
        self.raises(InvalidServices, {'number': 0}, parse_system, 'service a\x0cb\nend')
        self.wrong(0, 'service a end')
        self.wrong(1, 'service a\nend\r')
        self.wrong(1, 'service a\nrisk\rend\nend')

    def test_numbers(self):
        right = ['0', '7', '10', '9' * 30]
        wrong = ['00', '01', '007', '-1', '+1', '1.0', '1_0', 'x', '1x', '0x1', '1' * 31, '0' * 30, '\u0663', '\u00b2',
                 '\uff11', '-', '1,', 'None', 'True', "'1'"]
        for number in right:
            self.unread(f'policy p limit {number} tries 1 go')
            self.unread(f'policy p limit 1 tries {number} go')
            self.unread(f'policy p limit 1 tries 1 stop {number}')
            self.unread(f'policy p limit 1 tries 2 early {number} go')
            self.unread(f'policy p limit 1 tries 2 pauses {number} go')
            self.unread(f'policy p limit 1 tries 2 pauses 1 {number} lossy go')
        for number in wrong:
            self.in_policy(f'policy p limit {number} tries 1 go')
            self.in_policy(f'policy p limit 1 tries {number} go')
            self.in_policy(f'policy p limit 1 tries 1 stop {number}')
            self.in_policy(f'policy p limit 1 tries 2 early {number} go')
            self.in_policy(f'policy p limit 1 tries 2 pauses {number} go')
            self.in_policy(f'policy p limit 1 tries 3 pauses 1 {number} go')
            self.in_block(f'run {number} 20')
            self.in_block(f'run 0 {number}')
        self.in_block('run 0 0', is_right=True)
        self.in_block('run 10 20', is_right=True)

    def unread(self, line):
        """the line can stand there; if there is an error, it is that of the policy."""
        for text in (line + '\nservice a\nend', line + '\nservice a\nx', line + '\nservice a'):
            try:
                parse_system(text)
            except InvalidPolicy:
                self.assertTrue(text.endswith('end'))
            except InvalidText as error:
                self.assertEqual(error.line, 2)

    def test_policy_words(self):
        for line in ('policy', 'policy p', 'policy p limit', 'policy p limit 5', 'policy p limit 5 tries',
                     'policy p limit 5 tries 1', 'policy limit 5 tries 1 go', 'policy p tries 1 limit 5 go',
                     'policy p limit 5 go', 'policy p tries 1 go', 'Policy p limit 5 tries 1 go',
                     'policy p limits 5 tries 1 go', 'policy p limit 5 try 1 go', 'policy p limit 5 tries 1 Go',
                     'policy p q limit 5 tries 1 go', 'policy p limit 5 tries 1 go go', 'policy p limit 5 tries 1 go 1',
                     'policy p limit 5 tries 1 deadline 1', 'policy p limit 5 tries 1 deadline go',
                     'policy p limit 5 tries 1 stop', 'policy p limit 5 tries 1 stop 1 2', 'policy p limit 5 tries 1 1',
                     'policy p limit 5 tries 1 lossy', 'policy p limit 5 tries 1 lossy lossy go',
                     'policy p limit 5 tries 1 go lossy', 'policy p limit 5 tries 2 pauses', 'policy p limit 5 tries 1 x',
                     'policy p limit 5 tries 2 pauses go', 'policy p limit 5 tries 2 pauses lossy go',
                     'policy p limit 5 tries 2 pauses 1', 'policy p limit 5 tries 2 pauses 1 stop',
                     'policy p limit 5 tries 2 pauses 1 pauses 1 go', 'policy p limit 5 tries 2 pauses 1 early 1 go',
                     'policy p limit 5 tries 2 early 1 pauses 1 go', 'policy p limit 5 tries 2 early',
                     'policy p limit 5 tries 2 early go', 'policy p limit 5 tries 2 early 1', 'service',
                     'policy p limit 5 tries 2 early 1 2 go', 'policy p limit 5 tries 2 early 1 early 1 go',
                     'policy p limit 5 tries 2 lossy pauses 1 go', 'policy p limit 5 tries 2 lossy early 1 go',
                     'policy p limit 5 tries 2 early 1 lossy', 'policy p limit 5 tries 2 stop 1 lossy', 'end', 'risk',
                     'beside', 'maybe', 'both', 'call a p', 'run 1 2', 'pauses 1'):
            self.in_policy(line)
        for line in ('policy p limit 5 tries 2 pauses 0 go', 'policy p limit 5 tries 2 early 1 lossy stop 3',
                     'policy p limit 5 tries 3 pauses 1 2 lossy deadline', '   policy p limit 5 tries 2 go'):
            self.in_policy(line, is_right=True)

    def test_part_words(self):
        for line in ('risk risk', 'risk 1', 'Risk', 'risks', 'run', 'run 1', 'run 1 2 3', 'run a b', 'runs 1 2', 'call',
                     'call a', 'call a p p', 'Call a p', 'want', 'want a', 'want a p 1', 'maybe risk', 'maybe 1',
                     'both risk', 'both 1', 'beside risk', 'end end', 'end risk', 'service c', 'service', 'policy',
                     'policy q limit 5 tries 1 go', 'a', 'p', '1', '1 2', 'a p', 'call_a_p', '#'):
            self.in_block(line)
        for line in ('risk', 'run 1 2', 'call a p', 'want a p', '     risk'):
            self.in_block(line, is_right=True)

    def test_beside(self):
        self.wrong(1, 'service a\nbeside\nend')
        self.wrong(2, 'service a\nmaybe\nbeside\nend\nend')
        self.wrong(3, 'service a\nboth\nbeside\nbeside\nend\nend')
        self.wrong(2, 'service a\nboth\nend\nend')
        self.wrong(3, 'service a\nboth\nrisk\nend\nend')
        self.wrong(5, 'service a\nboth\nmaybe\nend\nmaybe\nbeside\nend\nend')
        self.wrong(6, 'service a\nboth\nboth\nbeside\nend\nbeside\nbeside\nend\nend')
        self.wrong(5, 'service a\nboth\nboth\nbeside\nend\nend\nend')

    def test_ends_too_many(self):
        self.wrong(2, 'service a\nend\nend')
        self.wrong(len(LINES), TEXT + '\nend')
        self.wrong(4, 'service a\nmaybe\nend\nend\nend')

    def test_policies_stand_ahead_of_services(self):
        self.wrong(2, 'service a\nend\npolicy p limit 5 tries 1 go')
        self.wrong(1, 'service a\npolicy p limit 5 tries 1 go\nend')
        self.wrong(len(LINES), TEXT + '\npolicy r limit 5 tries 1 go')

    def test_the_text_ends_within_a_service(self):
        ends = [number for number, line in enumerate(LINES) if line == 'end']
        for number in range(1, len(LINES)):
            inside = number > 2 and number != ends[0] + 1
            if inside:
                self.wrong(number, '\n'.join(LINES[:number]))
        self.wrong(1, 'service a')
        self.wrong(2, 'service a\nmaybe')
        self.wrong(3, 'service a\nmaybe\nend')
        self.wrong(4, 'service a\nboth\nbeside\nend')

    def test_a_text_without_services_does_not_end_too_early(self):
        self.raises(InvalidServices, {'number': None}, parse_system, 'policy p limit 5 tries 1 go')
        self.raises(InvalidServices, {'number': None}, parse_system, '\n'.join(LINES[:2]))

    def test_each_line_left_out_doubled_or_exchanged(self):
        # The first line behind which no line can make the text right, found by trying: the words decide alone.
        cases = {
            'left out': [LINES[:k] + LINES[k + 1:] for k in range(len(LINES))],
            'doubled': [LINES[:k + 1] + LINES[k:] for k in range(len(LINES))],
            'exchanged': [LINES[:k] + [LINES[k + 1], LINES[k]] + LINES[k + 2:] for k in range(len(LINES) - 1)],
        }
        for how in cases:
            for lines in cases[how]:
                wanted = first_wrong(lines)
                with self.subTest(how, lines=lines):
                    if wanted is None:
                        try:
                            parse_system('\n'.join(lines))
                        except (InvalidPart, InvalidPolicies, InvalidPolicy, InvalidServices, UnknownName):
                            pass
                    else:
                        self.wrong(wanted, '\n'.join(lines))

    def test_the_first_of_several(self):
        self.wrong(1, 'policy p limit 5 tries 1 go\nx\n\nservice a')
        self.wrong(0, 'policy p limit x tries 1 go\nservice')
        self.wrong(3, 'policy P limit 0 tries 9 go\nservice A\ncall a p\nrun 1')


def first_wrong(lines):
    """the first line that cannot stand, for lines that are right by themselves; a second reading of the form."""
    around = []
    is_behind_services = False
    for number, line in enumerate(lines):
        word = line.split()[0]
        if word == 'policy':
            stands = not around and not is_behind_services
        elif word == 'service':
            stands = not around
            around, is_behind_services = ['service'] if stands else around, True
        elif word == 'beside':
            stands = bool(around) and around[-1] == 'both'
            if stands:
                around[-1] = 'beside'
        elif word == 'end':
            stands = bool(around) and around[-1] != 'both'
            if stands:
                around.pop()
        else:
            stands = bool(around)
            if word in ('maybe', 'both'):
                around.append(word)
        if not stands:
            return number
    return len(lines) if around else None


class ErrorsTest(Case):
    def test_lines_are_ahead_of_all_others(self):
        for head in ('policy P limit 0 tries 9 stop 99', 'policy p limit 0 tries 1 go', 'policy p limit 5 tries 1 early 1 go'):
            self.raises(InvalidText, {'line': 3}, parse_system, head + '\nservice A\nend\nx')
            self.raises(InvalidText, {'line': 2}, parse_system, head + '\nservice A')

    def test_errors_of_policies_in_order(self):
        def text(*policies):
            return '\n'.join(policies + ('service A', 'end'))

        name, limit, tries = 'policy P1 limit 0 tries 1 go', 'policy p limit 21 tries 9 go', 'policy q limit 5 tries 0 go'
        self.raises(InvalidName, {'value': 'P1'}, parse_system, text(name, limit, tries))
        self.raises(InvalidPolicy, {'field': 'limit'}, parse_system, text(limit, name))
        self.raises(InvalidPolicy, {'field': 'tries'}, parse_system, text(tries, limit, name))
        self.raises(InvalidPolicy, {'field': 'tries'}, parse_system, text('policy p limit 5 tries 1 go', tries, name))
        for words, field in (
                ('limit 0 tries 1 go', 'limit'), ('limit 5 tries 4 go', 'tries'), ('limit 5 tries 1 pauses 0 go', 'pauses'),
                ('limit 5 tries 2 pauses 9 go', 'pauses'), ('limit 5 tries 3 pauses 0 go', 'pauses'),
                ('limit 5 tries 2 pauses 0 0 go', 'pauses'), ('limit 5 tries 1 early 3 go', 'early'),
                ('limit 5 tries 2 early 0 go', 'early'), ('limit 5 tries 2 early 21 go', 'early'),
                ('limit 5 tries 1 stop 21', 'ending'), ('limit 5 tries 1 stop ' + '9' * 30, 'ending'),
                ('limit 5 tries 1 early 3 stop 21', 'early')):
            self.raises(InvalidPolicy, {'field': field}, parse_system, text('policy p ' + words))
        for name in ('A', 'abcdefghi', 'p1', 'p\t', '1', '-', '#', '\u00e4', "'p'"):
            self.raises(InvalidName, {'value': name}, parse_system, text(f'policy {name} limit 0 tries 1 go'))

    def test_errors_of_systems(self):
        good = 'policy p limit 5 tries 1 go\n'
        self.raises(InvalidPolicies, {'number': 1}, parse_system, good + good + 'service A\nend')
        many = ''.join(f'policy {name} limit 5 tries 1 go\n' for name in 'abcdefghi')
        self.raises(InvalidPolicies, {'number': None}, parse_system, many + 'service a\nend')
        self.raises(InvalidServices, {'number': 0}, parse_system, good + 'service A\nend')
        self.raises(InvalidServices, {'number': 1}, parse_system, good + 'service a\nend\nservice a\nrun 2 1\nend')
        self.raises(InvalidServices, {'number': None}, parse_system,
                    '\n'.join(f'service {name}\nend' for name in 'abcdefg'))
        self.raises(InvalidPart, {'service': 'a', 'place': 1}, parse_system, 'service a\nrisk\nrun 2 1\nend')
        self.raises(InvalidPart, {'service': 'a', 'place': 0}, parse_system, 'service a\nrun 0 ' + '9' * 30 + '\nend')
        self.raises(InvalidPart, {'service': 'a', 'place': 0}, parse_system, 'service a\ncall A p\nend')
        self.raises(InvalidPart, {'service': 'a', 'place': 2}, parse_system,
                    'service a\nmaybe\nmaybe\nmaybe\nend\nend\nend\nend')
        self.raises(InvalidPart, {'service': 'a', 'place': 12}, parse_system, 'service a\n' + 'risk\n' * 13 + 'end')
        self.raises(UnknownName, {'value': 'a'}, parse_system, good + 'service a\ncall a p\nend')
        self.raises(UnknownName, {'value': 'q'}, parse_system, good + 'service a\nend\nservice b\nwant a q\nend')
        self.raises(TooLong, {'service': 'b'}, parse_system, 'policy p limit 20 tries 3 go\nservice a\nend\nservice b\n'
                    + 'call a p\n' * 7 + 'end')


if __name__ == '__main__':
    unittest.main()
