import random
import unittest

from helpers import VALUES, Case
from mostcalls.console import Console
from mostcalls.edits import Edits
from mostcalls.errors import (InvalidCommand, InvalidName, InvalidPart, InvalidPolicy, InvalidQuestion, InvalidText, NoSystem,
                              NothingToRedo, NothingToUndo, TooLong, UnknownName)
from mostcalls.journals import recover, write_journal
from mostcalls.printing import format_system
from mostcalls.questions import ask
from mostcalls.texts import parse_system
from samples import some_system
from test_edits import some_deed

TEXT = 'policy p limit 3 tries 2 pauses 0 go;service a;run 0 4;end;service b;call a p;end'


def shown(system):
    return ';'.join(line.strip() for line in format_system(system).split('\n'))


def command_of(system, deed):
    """the command of a drawn deed."""
    kind, told = deed
    if kind == 'set_policy':
        policy = told[0]
        words = 'policy %s limit %d tries %d ' % (policy.name, policy.limit, policy.tries)
        if policy.early is not None:
            words += 'early %d ' % policy.early
        elif policy.tries > 1:
            words += 'pauses %s ' % ' '.join(str(ticks) for ticks in policy.pauses)
        return words + 'lossy ' * policy.lossy + ' '.join(str(word) for word in policy.ending)
    if kind == 'set_block':
        return 'block %s %s' % (told[0], ';'.join(lines_told(told[1])))
    return ' '.join((kind,) + told)


def lines_told(block):
    lines = []
    for part in block:
        if part[0] == 'maybe':
            lines += ['maybe'] + lines_told(part[1]) + ['end']
        elif part[0] == 'both':
            lines += ['both'] + lines_told(part[1]) + ['beside'] + lines_told(part[2]) + ['end']
        else:
            lines.append(' '.join(str(word) for word in part))
    return lines


class ConsoleTest(Case):
    def begun(self):
        console = Console()
        self.same(console.execute('system ' + TEXT), 'ok')
        return console

    def test_beside_edits(self):
        errors = 0
        for seed in range(60):
            rng = random.Random(seed)
            system = some_system(seed, 3)
            console, edits = Console(), Edits(system)
            self.same(console.execute('system ' + format_system(system).replace('\n', ';')), 'ok')
            for _ in range(30):
                kind, told = some_deed(rng, edits.system)
                command = command_of(edits.system, (kind, told))
                try:
                    getattr(edits, kind)(*told)
                except Exception as error:
                    self.raises(type(error), vars(error), console.execute, command)
                    errors += 1
                else:
                    self.same(console.execute(command), 'ok')
                self.same(console.execute('show'), shown(edits.system))
                journal = write_journal(edits)
                self.same(console.execute('journal'), journal[:-1] if journal else '-')
                question = rng.choice(('last a', 'answer b', 'calls a from c', 'hopeless', 'nobody b from c'))
                self.same(console.execute('ask ' + question), ask(edits.system, question))
            text = console.execute('journal')
            again, number = recover(system, text + '\n')
            self.same(number, len(edits.deeds()))
            self.assertEqual(again.system, edits.system)
        self.assertGreater(errors, 100)

    def test_by_hand(self):
        console = self.begun()
        for command, answer in (('show', TEXT), ('journal', '-'), ('ask answer b', '0 to 6'), ('mark first', 'ok'),
                                ('policy p limit 2 tries 1 deadline', 'ok'), ('ask answer b', '0 to 2'),
                                ('block a both;risk;beside;maybe;run 1 2;end;end', 'ok'),
                                ('show', 'policy p limit 2 tries 1 deadline;service a;both;risk;beside;maybe;run 1 2;end;end;end;service b;call a p;end'),
                                ('block a ', 'ok'), ('ask work a from a', '0'), ('undo', 'ok'), ('redo', 'ok'), ('back first', 'ok'), ('show', TEXT)):
            self.same(console.execute(command), answer)
        rows = console.execute('journal').split('\n')
        self.same([row[:row.rindex(' #')] for row in rows],
                  ['0 mark first', '1 policy p limit 2 tries 1 deadline', '2 block a both;risk;beside;maybe;run 1 2;end;end',
                   '3 block a ', '4 undo', '5 redo', '6 back first'])

    def test_a_new_system_begins_anew(self):
        console = self.begun()
        console.execute('mark m')
        console.execute('block a ')
        self.same(console.execute('system service z;end'), 'ok')
        self.same(console.execute('show'), 'service z;end')
        self.same(console.execute('journal'), '-')
        self.raises(NothingToUndo, {}, console.execute, 'undo')
        self.raises(UnknownName, {'value': 'm'}, console.execute, 'back m')

    def test_a_system_that_is_none_changes_nothing(self):
        console = self.begun()
        console.execute('mark m')
        journal = console.execute('journal')
        for command, error, fields in (
                ('system ', InvalidText, {'line': 0}), ('system x', InvalidText, {'line': 0}), ('system service a', InvalidText, {'line': 1}),
                ('system service a;run 1;end', InvalidText, {'line': 1}), ('system service a;end;', InvalidText, {'line': 2}),
                ('system service A;end', None, None), ('system policy p limit 0 tries 1 go;service a;end', InvalidPolicy, {'field': 'limit'}),
                ('system service a;call b p;end', UnknownName, {'value': 'b'}), ('system service a;run 3 2;end', InvalidPart, {'service': 'a', 'place': 0})):
            if error is None:
                with self.assertRaises(Exception):
                    console.execute(command)
            else:
                self.raises(error, fields, console.execute, command)
            self.same((console.execute('show'), console.execute('journal')), (TEXT, journal))
        empty = Console()
        self.raises(InvalidText, {'line': 0}, empty.execute, 'system ')
        self.raises(NoSystem, {}, empty.execute, 'show')

    def test_texts_of_systems(self):
        """`;` stands for line feeds, and lines can be indented there."""
        for seed in range(30):
            system = some_system(seed, 4)
            console = Console()
            console.execute('system ' + format_system(system).replace('\n', ';'))
            self.assertEqual(parse_system(console.execute('show').replace(';', '\n')), system)
            console.execute('system ' + console.execute('show'))
            self.same(console.execute('show'), shown(system))

    def test_commands_that_are_none(self):
        for console in (Console(), self.begun()):
            for value in VALUES:
                if not isinstance(value, str):
                    self.raises(InvalidCommand, {'word': None}, console.execute, value)
            for command, word in (('', ''), (' ', ''), (' show', ''), ('x', 'x'), ('x y', 'x'), ('Show', 'Show'), ('show ', 'show'),
                                  ('show x', 'show'), ('undo ', 'undo'), ('redo  ', 'redo'), ('journal -', 'journal'), ('system', 'system'),
                                  ('policy', 'policy'), ('block', 'block'), ('mark', 'mark'), ('back', 'back'), ('ask', 'ask'),
                                  ('show;', 'show;'), ('undo\n', 'undo\n'), ('mark\tm', 'mark\tm'), ('with p', 'with'), ('calls a from b', 'calls'),
                                  ('systems a', 'systems'), ('within_trial x', 'within_trial'), ('ok', 'ok'), ('keep', 'keep')):
                self.raises(InvalidCommand, {'word': word}, console.execute, command)

    def test_no_system(self):
        console = Console()
        for command in ('show', 'undo', 'redo', 'journal', 'policy x', 'block x', 'mark X', 'back x', 'ask x', 'ask ', 'block '):
            self.raises(NoSystem, {}, console.execute, command)

    def test_errors_change_nothing(self):
        console = self.begun()
        for command in ('mark m', 'block a risk', 'undo'):
            console.execute(command)
        journal = console.execute('journal')
        for command, error, fields in (
                ('policy x', InvalidText, {'line': 0}), ('policy ', InvalidText, {'line': 0}), ('policy  p limit 3 tries 1 go', InvalidText, {'line': 0}),
                ('policy p limit 3 tries 1 go ', InvalidText, {'line': 0}), ('policy p limit 3 tries 1 go;risk', InvalidText, {'line': 0}),
                ('policy policy p limit 3 tries 1 go', InvalidText, {'line': 0}), ('policy p limit 03 tries 1 go', InvalidText, {'line': 0}),
                ('policy p limit 0 tries 1 go', InvalidPolicy, {'field': 'limit'}), ('policy P limit 0 tries 1 go', InvalidName, {'value': 'P'}),
                ('policy q limit 3 tries 1 go', UnknownName, {'value': 'q'}), ('policy q limit 3 tries 2 go', UnknownName, {'value': 'q'}),
                ('policy p limit 3 tries 2 go', InvalidText, {'line': 0}), ('policy p limit 3 tries 3 lossy stop 2', InvalidText, {'line': 0}),
                ('policy p limit 3 tries 1 pauses 0 go', InvalidPolicy, {'field': 'pauses'}),
                ('block a', InvalidText, {'line': 0}), ('block x', UnknownName, {'value': 'x'}), ('block  risk', UnknownName, {'value': ''}),
                ('block ', UnknownName, {'value': ''}), ('block a x', InvalidText, {'line': 0}), ('block a risk;x', InvalidText, {'line': 1}),
                ('block x risk;x', InvalidText, {'line': 1}), ('block a risk;', InvalidText, {'line': 1}), ('block a ;', InvalidText, {'line': 0}),
                ('block a  risk', InvalidText, {'line': 0}), ('block a risk; risk', InvalidText, {'line': 0}), ('block a  x', InvalidText, {'line': 0}),
                ('block a risk;  x', InvalidText, {'line': 1}), ('block a risk ', InvalidText, {'line': 0}), ('block a maybe;risk', InvalidText, {'line': 2}),
                ('block a both;risk;end', InvalidText, {'line': 2}), ('block a both;beside', InvalidText, {'line': 2}),
                ('block a risk;end', InvalidText, {'line': 1}), ('block a end;service x', InvalidText, {'line': 0}), ('block a beside', InvalidText, {'line': 0}),
                ('block a service x', InvalidText, {'line': 0}), ('block a policy p limit 3 tries 1 go', InvalidText, {'line': 0}),
                ('block a run 3 2', InvalidPart, {'service': 'a', 'place': 0}), ('block a risk; run 3 2', InvalidPart, {'service': 'a', 'place': 1}),
                ('block b call b p', UnknownName, {'value': 'b'}), ('block b call a x', UnknownName, {'value': 'x'}),
                ('block b  call a x', UnknownName, {'value': 'x'}),
                ('block a maybe;maybe;maybe;end;end;end', InvalidPart, {'service': 'a', 'place': 2}),
                ('mark ', InvalidName, {'value': ''}), ('mark a b', InvalidName, {'value': 'a b'}), ('mark  m', InvalidName, {'value': ' m'}),
                ('mark A', InvalidName, {'value': 'A'}), ('back ', UnknownName, {'value': ''}), ('back x', UnknownName, {'value': 'x'}),
                ('back m ', UnknownName, {'value': 'm '}), ('ask ', InvalidQuestion, {'word': 0}), ('ask  hopeless', InvalidQuestion, {'word': 0}),
                ('ask answer x', UnknownName, {'value': 'x'}), ('ask with p limit 0 hopeless', InvalidPolicy, {'field': 'limit'})):
            self.raises(error, fields, console.execute, command)
            self.same((console.execute('show'), console.execute('journal')), (TEXT, journal))
        self.same(console.execute('redo'), 'ok')
        self.raises(NothingToRedo, {}, console.execute, 'redo')

    def test_too_long_comes_ahead_of_the_form(self):
        console = Console()
        console.execute('system policy p limit 3 tries 1 go;service a;end;service b;' + 'call a p;' * 12 + 'end')
        self.raises(TooLong, {'service': 'b'}, console.execute, 'policy p limit 20 tries 3 go')
        self.raises(InvalidText, {'line': 0}, console.execute, 'policy p limit 3 tries 3 go')
        self.same(console.execute('policy p limit 3 tries 3 pauses 0 0 go'), 'ok')

    def test_asking_changes_nothing(self):
        console = self.begun()
        self.same(console.execute('ask with p limit 20 answer b'), '0 to 4')
        self.same((console.execute('show'), console.execute('journal')), (TEXT, '-'))

    def test_two_consoles(self):
        one, other = self.begun(), self.begun()
        one.execute('block a ')
        self.same(other.execute('show'), TEXT)

    def test_named_arguments(self):
        console = Console()
        self.same(console.execute(command='system ' + TEXT), 'ok')


if __name__ == '__main__':
    unittest.main()
