import random
import unittest

from helpers import VALUES, Case
from mostcalls.edits import Edits
from mostcalls.errors import InvalidText, NothingToRedo, NothingToUndo
from mostcalls.journals import recover, write_journal
from mostcalls.policies import Policy
from mostcalls.printing import format_system
from mostcalls.systems import System
from samples import some_system
from test_edits import EditsCase, some_deed
from slowedits import SlowEdits

SYSTEM = System([Policy('p', 3, tries=2, pauses=(1,))], [('a', (('run', 0, 4),)), ('b', (('call', 'a', 'p'),))])


def check_number(text):
    total = 0
    for place in range(len(text)):
        total += (place + 1) * ord(text[place])
    return total % 9973


def line(number, deed):
    """a right line with any text as its deed."""
    ahead = '%d %s ' % (number, deed)
    return '%s#%04d\n' % (ahead, check_number(ahead))


def slow_journal(deeds):
    lines = []
    for number, deed in enumerate(deeds):
        text = ' '.join(deed) if deed[0] not in ('policy', 'block') else deed[1]
        if deed[0] == 'block':
            text = 'block %s %s' % (deed[1], ';'.join(row.strip() for row in deed[2]))
        lines.append(line(number, text))
    return ''.join(lines)


def some_edits(seed, many=25):
    """a system, Edits of it with drawn deeds, and what system and how many edits there are behind each deed."""
    case = EditsCase()
    rng = random.Random(seed)
    system = some_system(seed, 3)
    edits, slow = Edits(system), SlowEdits(system)
    states = [(system, 0)]
    for _ in range(many):
        if case.do(edits, slow, some_deed(rng, slow.system)):
            states.append((edits.system, len(edits)))
    return rng, system, edits, states


class WriteTest(Case):
    def test_drawn_deeds(self):
        for seed in range(50):
            _, _, edits, _ = some_edits(seed)
            text = write_journal(edits)
            self.same(text, slow_journal(edits.deeds()))
            lines = text.split('\n')
            self.same(lines.pop(), '')
            for number, row in enumerate(lines):
                self.assertRegex(row, r'^%d .* #[0-9]{4}$' % number)
                self.same(int(row[-4:]), check_number(row[:-5]))

    def test_by_hand(self):
        edits = Edits(SYSTEM)
        self.same(write_journal(edits), '')
        edits.mark('m')
        edits.set_block('b', (('both', (('risk',),), (('maybe', ()),)),))
        edits.set_block('a', ())
        edits.set_policy(Policy('p', 4, lossy=True))
        edits.undo()
        edits.redo()
        edits.back('m')
        deeds = ['mark m', 'block b both;risk;beside;maybe;end;end', 'block a ', 'policy p limit 4 tries 1 lossy go',
                 'undo', 'redo', 'back m']
        self.same(write_journal(edits), ''.join(line(number, deed) for number, deed in enumerate(deeds)))
        self.same(line(0, 'undo'), '0 undo #%04d\n' % ((48 + 2 * 32 + 3 * 117 + 4 * 110 + 5 * 100 + 6 * 111 + 7 * 32) % 9973))

    def test_four_digits(self):
        edits = Edits(SYSTEM)
        for number in range(300):
            edits.mark('m' * (number % 8 + 1))
        self.assertTrue(any(' #0' in row for row in write_journal(edits).split('\n')))
        self.same(recover(SYSTEM, write_journal(edits))[1], 300)

    def test_trials(self):
        edits = Edits(SYSTEM)
        edits.begin_trial()
        edits.mark('m')
        self.same(write_journal(edits), line(0, 'mark m'))
        edits.end_trial()
        self.same(write_journal(edits), '')


class RecoverTest(Case):
    def recovers(self, system, text, edits, states, number):
        """the text is recovered to the state behind so many deeds of these edits."""
        told = recover(system, text)
        self.assertIs(type(told), tuple)
        again, many = told
        self.same(many, number)
        self.assertEqual(again.system, states[number][0])
        self.same(len(again), states[number][1])
        self.same(again.deeds(), edits.deeds()[:number])
        self.same(write_journal(again), slow_journal(edits.deeds()[:number]))
        return again

    def test_whole_journals(self):
        for seed in range(60):
            rng, system, edits, states = some_edits(seed)
            again = self.recovers(system, write_journal(edits), edits, states, len(edits.deeds()))
            # Both go on alike.
            slow = SlowEdits(system)
            for deed in range(12):
                kind, told = some_deed(rng, again.system)
                results = []
                for one in (edits, again):
                    try:
                        results.append(getattr(one, kind)(*told))
                    except Exception as error:
                        results.append((type(error), vars(error)))
                self.assertEqual(results[0], results[1])
                self.assertEqual(again.system, edits.system)
                self.same(write_journal(again), write_journal(edits))
            self.assertEqual(slow.system, system)

    def test_undone_to_the_beginning(self):
        _, system, edits, _ = some_edits(5)
        again = recover(system, write_journal(edits))[0]
        while len(again):
            again.undo()
        self.assertEqual(again.system, system)
        self.raises(NothingToUndo, {}, again.undo)

    def test_cut_anywhere(self):
        for seed in range(12):
            _, system, edits, states = some_edits(seed, 14)
            text = write_journal(edits)
            for place in range(len(text) + 1):
                self.recovers(system, text[:place], edits, states, text[:place].count('\n'))

    def test_a_character_changed(self):
        for seed in range(40):
            rng, system, edits, states = some_edits(seed, 14)
            text = write_journal(edits)
            for _ in range(30):
                place = rng.randrange(len(text))
                sign = rng.choice('0123456789 #;abcdegilmnoprstuy\n')
                changed = text[:place] + sign + text[place + 1:]
                number = text[:place].count('\n') if changed != text else len(edits.deeds())
                self.recovers(system, changed, edits, states, number)

    def test_lines_left_out_doubled_and_exchanged(self):
        for seed in range(40):
            rng, system, edits, states = some_edits(seed, 14)
            lines = write_journal(edits).splitlines(True)
            if len(lines) < 3:
                continue
            at = rng.randrange(len(lines) - 1)
            self.recovers(system, ''.join(lines[:at] + lines[at + 1:]), edits, states, at)
            self.recovers(system, ''.join(lines[:at + 1] + lines[at:]), edits, states, at + 1)
            self.recovers(system, ''.join(lines[:at] + [lines[at + 1], lines[at]] + lines[at + 2:]), edits, states, at)
            self.recovers(system, ''.join(lines[:at] + ['\n'] + lines[at:]), edits, states, at)
            self.recovers(system, ''.join(lines) + lines[at].rstrip('\n'), edits, states, len(lines))

    def test_deeds_that_cannot_be_done(self):
        right = [line(0, 'mark m'), line(1, 'policy p limit 4 tries 1 go')]
        for deed in ('redo', 'back n', 'policy q limit 4 tries 1 go', 'block c run 1 1', 'block a call a p', 'block b call x p',
                     'block a run 3 2', 'mark A', 'mark abcdefghi', 'mark ', 'mark m m', 'policy p limit 0 tries 1 go',
                     'block a ' + ';'.join(['risk'] * 13), 'policy P limit 4 tries 1 go', 'block a run 0 21',
                     'policy p limit 4 tries 1 pauses 0 go', 'block a maybe;maybe;maybe;end;end;end'):
            text = ''.join(right) + line(2, deed) + line(3, 'undo')
            edits, number = recover(SYSTEM, text)
            self.same(number, 2)
            self.assertEqual(edits.system, SYSTEM.with_policy(Policy('p', 4)))
            self.raises(NothingToRedo, {}, edits.redo)
        edits, number = recover(SYSTEM, line(0, 'undo'))
        self.same((number, edits.deeds()), (0, []))
        wide = System([Policy('p', 3)], [('a', ()), ('b', (('call', 'a', 'p'),) * 12)])
        self.same(recover(wide, line(0, 'policy p limit 20 tries 2 pauses 0 go'))[1], 0)
        self.same(recover(wide, line(0, 'policy p limit 20 tries 1 go'))[1], 1)

    def test_lines_of_another_form(self):
        """lines with right numbers that no journal has."""
        for deed in ('', ' ', 'undo ', ' undo', 'undo undo', 'undone', 'redo ', 'Mark m', 'mark', 'back', 'block', 'block a',
                     'block a  ', 'block  risk', 'block a risk;', 'block a ;risk', 'block a  risk', 'block a risk ', 'block a risk; risk',
                     'block a run 01 2', 'block a run 1  2', 'block a maybe', 'block a maybe;end;end', 'block a end',
                     'block a both;end', 'block a both;beside;beside;end', 'block a risk;beside', 'block a service x',
                     'policy', 'policy p', 'policy p limit 4 tries 2 go', 'policy p limit 4 tries 1', ' policy p limit 4 tries 1 go',
                     'policy  p limit 4 tries 1 go', 'policy p limit 4 tries 1 go ', 'policy p limit 04 tries 1 go',
                     'policy policy p limit 4 tries 1 go', 'system', 'show', 'journal', 'ask hopeless', 'block a risk\rrisk'):
            edits, number = recover(SYSTEM, line(0, 'mark m') + line(1, deed) + line(2, 'undo'))
            self.same(number, 1)
            self.same(edits.deeds(), [('mark', 'm')])

    def test_numbers_of_another_form(self):
        ahead = line(0, 'mark m')
        for row in (line(1, 'mark n').replace('1', '01', 1), line(0, 'mark n'), line(2, 'mark n'), ' ' + line(1, 'mark n'),
                    line(1, 'mark n').replace('\n', ' \n'), line(1, 'mark n').replace('#', '# '), '\n' + line(1, 'mark n'),
                    line(1, 'mark n').replace('\n', '\r\n'), line(1, 'mark n').replace(' #', '#'), '1 mark n\n', '#\n', ' #\n',
                    line(1, 'mark n').replace('1 ', '\u0661 ', 1), line(1, 'mark n')[:-3] + '\n'):
            self.same(recover(SYSTEM, ahead + row)[1], 1)

    def test_check_numbers_must_be_right(self):
        for deed in ('undo', 'mark m', 'block a '):
            row = line(0, deed)
            right = int(row[-5:-1])
            for number in list(range(0, 9999, 37)) + [right, right + 9973]:
                told = recover(SYSTEM, row[:-5] + '%04d\n' % number)[1]
                self.same(told, 1 if number == right and deed != 'undo' else 0)

    def test_texts_that_are_no_journals(self):
        for text in ('', '\n', '\n\n', 'mark m', 'mark m\n', format_system(SYSTEM), '0', '0 ', ' ', '#', '0 mark m #' + '9' * 30 + '\n'):
            edits, number = recover(SYSTEM, text)
            self.same((number, edits.deeds(), len(edits)), (0, [], 0))
            self.assertEqual(edits.system, SYSTEM)

    def test_a_last_line_without_a_line_feed(self):
        text = line(0, 'mark m') + line(1, 'mark n')
        self.same(recover(SYSTEM, text[:-1])[1], 1)
        self.same(recover(SYSTEM, text)[1], 2)

    def test_values_that_are_no_texts(self):
        for value in VALUES:
            if not isinstance(value, str):
                self.raises(InvalidText, {'line': None}, recover, SYSTEM, value)

    def test_another_system(self):
        """the deeds that can be done there are done."""
        text = line(0, 'mark m') + line(1, 'policy p limit 9 tries 1 go') + line(2, 'block b call a p') + line(3, 'back m')
        other = System([Policy('p', 3)], [('a', ())])
        edits, number = recover(other, text)
        self.same(number, 2)
        self.assertEqual(edits.system, other.with_policy(Policy('p', 9)))

    def test_named_arguments(self):
        edits = Edits(SYSTEM)
        edits.mark('m')
        self.same(recover(text=write_journal(edits=edits), system=SYSTEM)[1], 1)


if __name__ == '__main__':
    unittest.main()
