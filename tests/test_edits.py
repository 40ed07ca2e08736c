import random
import unittest

from helpers import VALUES, Case
from mostcalls.edits import Edits
from mostcalls.errors import (InvalidName, InvalidPart, InvalidPolicies, InvalidServices, NothingToRedo, NothingToUndo,
                              NoTrial, TooLong, UnknownName)
from mostcalls.policies import Policy
from mostcalls.systems import System
from samples import count_parts, some_block, some_policy, some_system
from slowedits import SlowEdits

SYSTEM = System([Policy('p', 3, tries=2)], [('a', (('run', 0, 4),)), ('b', (('call', 'a', 'p'),))])
OTHER = SYSTEM.with_policy(Policy('p', 9))


def some_deed(rng, system):
    """a name of a method and arguments of it, mostly such that it can be done."""
    kind = rng.choice(('set_policy', 'set_block', 'set_block', 'undo', 'undo', 'redo', 'mark', 'back', 'back'))
    if kind == 'set_policy':
        name = rng.choice(system.policies() + ['x'] * (rng.random() < 0.1))
        return kind, (some_policy(rng, name, rng.random() < 0.9),)
    if kind == 'set_block':
        place = rng.randrange(len(system))
        name = rng.choice(system.services()[place:place + 1] + ['x'] * (rng.random() < 0.05))
        ahead = system.services()[:place + (rng.random() < 0.1)]
        block = some_block(rng, ahead, system.policies(), 0, True, 4)
        while count_parts(block) > 12:
            block = some_block(rng, ahead, system.policies(), 0, True, 4)
        return kind, (name, system[name] if name in system and rng.random() < 0.1 else block)
    return kind, (rng.choice(('one', 'two', 'three')),) if kind in ('mark', 'back') else ()


class EditsCase(Case):
    def same_edits(self, edits, slow):
        self.assertEqual(edits.system, slow.system)
        self.assertEqual(len(edits), slow.length())
        self.same(edits.deeds(), slow.done)

    def do(self, edits, slow, deed):
        """does a deed to both; whether it could be done."""
        kind, told = deed
        if kind == 'undo' and not slow.can_undo():
            self.raises(NothingToUndo, {}, edits.undo)
        elif kind == 'redo' and not slow.can_redo():
            self.raises(NothingToRedo, {}, edits.redo)
        elif kind == 'back' and told[0] not in slow.marks:
            self.raises(UnknownName, {'value': told[0]}, edits.back, *told)
        else:
            try:
                getattr(slow, kind)(*told)
            except (UnknownName, TooLong) as error:
                self.raises(type(error), vars(error), getattr(edits, kind), *told)
            else:
                self.assertIsNone(getattr(edits, kind)(*told))
                return True
        return False


class EditsTest(EditsCase):
    def test_drawn_deeds(self):
        wrong = 0
        for seed in range(60):
            rng = random.Random(seed)
            system = some_system(seed, 3)
            edits, slow = Edits(system), SlowEdits(system)
            for _ in range(40):
                wrong += not self.do(edits, slow, some_deed(rng, slow.system))
                self.same_edits(edits, slow)
        self.assertGreater(wrong, 100)

    def test_at_first(self):
        edits = Edits(SYSTEM)
        self.assertEqual(edits.system, SYSTEM)
        self.same((len(edits), edits.deeds()), (0, []))
        self.raises(NothingToUndo, {}, edits.undo)
        self.raises(NothingToRedo, {}, edits.redo)

    def test_an_edit_by_what_is_equal_is_an_edit(self):
        edits = Edits(SYSTEM)
        edits.set_policy(SYSTEM.policy('p'))
        edits.set_block('a', SYSTEM['a'])
        edits.mark('m')
        edits.back('m')
        self.assertEqual(edits.system, SYSTEM)
        self.same(len(edits), 3)
        edits.undo()
        edits.set_policy(SYSTEM.policy('p'))
        self.raises(NothingToRedo, {}, edits.redo)

    def test_a_mark_is_no_edit(self):
        edits = Edits(SYSTEM)
        edits.set_policy(OTHER.policy('p'))
        edits.undo()
        edits.mark('m')
        self.same(len(edits), 0)
        edits.redo()
        self.assertEqual(edits.system, OTHER)
        self.same(edits.deeds(), [('policy', 'policy p limit 9 tries 1 go'), ('undo',), ('mark', 'm'), ('redo',)])

    def test_undo_takes_no_mark_away(self):
        edits = Edits(SYSTEM)
        edits.set_policy(OTHER.policy('p'))
        edits.mark('m')
        edits.undo()
        self.assertEqual(edits.system, SYSTEM)
        edits.back('m')
        self.assertEqual(edits.system, OTHER)
        self.same(len(edits), 1)
        edits.undo()
        self.assertEqual(edits.system, SYSTEM)

    def test_a_name_is_given_to_another_system(self):
        edits = Edits(SYSTEM)
        edits.mark('m')
        edits.set_policy(OTHER.policy('p'))
        edits.mark('m')
        edits.undo()
        edits.back('m')
        self.assertEqual(edits.system, OTHER)

    def test_deeds_of_blocks(self):
        edits = Edits(SYSTEM)
        edits.set_block('b', (('both', (('maybe', (('risk',), ('want', 'a', 'p'))),), ()), ('run', 0, 20)))
        edits.set_block('b', ())
        self.same(edits.deeds(), [
            ('block', 'b', ('both', '  maybe', '    risk', '    want a p', '  end', 'beside', 'end', 'run 0 20')),
            ('block', 'b', ())])

    def test_errors_change_nothing(self):
        edits = Edits(SYSTEM)
        edits.set_policy(OTHER.policy('p'))
        edits.mark('m')
        edits.undo()
        before = edits.deeds()
        for error, fields, call, told in (
                (InvalidPolicies, {'number': None}, edits.set_policy, (None,)),
                (InvalidPolicies, {'number': None}, edits.set_policy, ('p',)),
                (UnknownName, {'value': 'q'}, edits.set_policy, (Policy('q', 2),)),
                (UnknownName, {'value': 'q'}, edits.set_block, ('q', None)),
                (UnknownName, {'value': None}, edits.set_block, (None, None)),
                (InvalidServices, {'number': 1}, edits.set_block, ('b', [])),
                (InvalidPart, {'service': 'b', 'place': 1}, edits.set_block, ('b', (('risk',), ('risk', 1)))),
                (UnknownName, {'value': 'b'}, edits.set_block, ('b', (('call', 'b', 'x'),))),
                (UnknownName, {'value': 'x'}, edits.set_block, ('b', (('call', 'a', 'x'),)))):
            self.raises(error, fields, call, *told)
            self.same(edits.deeds(), before)
            self.assertEqual(edits.system, SYSTEM)
        wide = Edits(System([Policy('p', 3)], [('a', ()), ('b', (('call', 'a', 'p'),) * 12)]))
        self.raises(TooLong, {'service': 'b'}, wide.set_policy, Policy('p', 20, tries=2))
        self.same((len(wide), wide.deeds()), (0, []))
        edits.redo()

    def test_names_that_are_wrong(self):
        edits = Edits(SYSTEM)
        edits.mark('m')
        for value in VALUES:
            if not (isinstance(value, str) and value in ('a', 'zz')):
                self.raises(InvalidName, {'value': value}, edits.mark, value)
            self.raises(UnknownName, {'value': value}, edits.back, value)
        for value in ('a b', 'A', 'abcdefghi', 'a\n', ''):
            self.raises(InvalidName, {'value': value}, edits.mark, value)
        self.same(edits.deeds(), [('mark', 'm')])

    def test_told_lists_are_new(self):
        edits = Edits(SYSTEM)
        edits.mark('m')
        edits.deeds().clear()
        self.same(edits.deeds(), [('mark', 'm')])
        told = edits.deeds()
        edits.mark('n')
        self.same(told, [('mark', 'm')])

    def test_named_arguments(self):
        edits = Edits(system=SYSTEM)
        edits.set_policy(policy=OTHER.policy('p'))
        edits.set_block(block=(('risk',),), name='a')
        edits.mark(name='m')
        edits.undo()
        edits.back(name='m')
        self.same(edits.within_trial(call=lambda: 5), 5)
        self.same(edits.system['a'], (('risk',),))

    def test_compared(self):
        edits = Edits(SYSTEM)
        for value in VALUES[:20] + (SYSTEM,):
            self.assertIs(edits == value, False)
            self.assertIs(edits != value, True)
        self.assertTrue(edits == edits)


class Trouble(Exception):
    pass


class TrialsTest(EditsCase):
    def test_drawn_deeds_in_trials(self):
        ended = 0
        for seed in range(80):
            rng = random.Random(seed)
            system = some_system(seed, 3)
            edits, slow = Edits(system), SlowEdits(system)
            for _ in range(60):
                kind = rng.choice(('deed', 'deed', 'deed', 'begin_trial', 'end_trial', 'keep'))
                if kind == 'deed':
                    self.do(edits, slow, some_deed(rng, slow.system))
                elif kind == 'begin_trial' or slow.trials:
                    self.assertIsNone(getattr(edits, kind)())
                    getattr(slow, kind)()
                    ended += kind == 'end_trial'
                else:
                    self.raises(NoTrial, {}, getattr(edits, kind))
                self.same_edits(edits, slow)
        self.assertGreater(ended, 300)

    def in_blocks(self, rng, edits, slow, depth):
        """drawn deeds, some of them in blocks, some of which end with an error; trials of blocks are ended inside."""
        for _ in range(rng.randint(1, 6)):
            kind = rng.choice(('deed', 'deed', 'begin', 'end', 'keep', 'block', 'block', 'error'))
            if kind == 'deed':
                self.do(edits, slow, some_deed(rng, slow.system))
            elif kind == 'begin':
                edits.begin_trial()
                slow.begin_trial()
            elif kind in ('end', 'keep') and slow.trials:
                edits.end_trial() if kind == 'end' else edits.keep()
                slow.end_trial() if kind == 'end' else slow.keep()
            elif kind == 'error' and depth > 0 and rng.random() < 0.5:
                raise Trouble()
            elif kind == 'block' and depth < 4:
                self.one_block(rng, edits, slow, depth)
            self.same_edits(edits, slow)

    def one_block(self, rng, edits, slow, depth):
        slow.begin_trial()
        mine = slow.trials[-1]
        try:
            with edits.trial() as told:
                self.assertIs(told, edits)
                self.in_blocks(rng, edits, slow, depth + 1)
        except Trouble:
            pass
        # What was begun in the block and is still open ends with it, and is kept or taken back with it.
        places = [place for place, trial in enumerate(slow.trials) if trial is mine]
        if places:
            del slow.trials[places[0] + 1:]
            slow.end_trial()

    def test_drawn_blocks(self):
        for seed in range(150):
            rng = random.Random(seed)
            system = some_system(seed, 3)
            edits, slow = Edits(system), SlowEdits(system)
            for _ in range(4):
                self.in_blocks(rng, edits, slow, 0)
                self.same_edits(edits, slow)
            while slow.trials:
                slow.end_trial()
                edits.end_trial()
                self.same_edits(edits, slow)
            self.raises(NoTrial, {}, edits.end_trial)

    def test_all_is_taken_back(self):
        edits = Edits(SYSTEM)
        edits.mark('m')
        edits.set_policy(OTHER.policy('p'))
        edits.undo()
        before = edits.deeds()
        edits.begin_trial()
        edits.redo()
        edits.mark('m')
        edits.mark('n')
        edits.set_block('a', ())
        edits.end_trial()
        self.same((edits.deeds(), len(edits)), (before, 0))
        self.raises(UnknownName, {'value': 'n'}, edits.back, 'n')
        edits.redo()
        self.assertEqual(edits.system, OTHER)
        edits.back('m')
        self.assertEqual(edits.system, SYSTEM)

    def test_what_is_done_behind_keep_stays(self):
        edits = Edits(SYSTEM)
        edits.begin_trial()
        edits.mark('m')
        edits.keep()
        edits.keep()
        edits.mark('n')
        edits.end_trial()
        self.same(edits.deeds(), [('mark', 'm'), ('mark', 'n')])
        self.raises(NoTrial, {}, edits.keep)

    def test_trials_within_trials(self):
        for inner in (True, False):
            for outer in (True, False):
                edits = Edits(SYSTEM)
                edits.begin_trial()
                edits.mark('m')
                edits.begin_trial()
                edits.mark('n')
                if inner:
                    edits.keep()
                edits.end_trial()
                self.same(len(edits.deeds()), 2 if inner else 1)
                if outer:
                    edits.keep()
                edits.end_trial()
                self.same(len(edits.deeds()), (2 if inner else 1) if outer else 0)

    def test_a_block_that_raises(self):
        edits = Edits(SYSTEM)
        for is_kept in (False, True):
            with self.assertRaises(Trouble):
                with edits.trial():
                    edits.mark('m')
                    if is_kept:
                        edits.keep()
                    raise Trouble()
            self.same(edits.deeds(), [('mark', 'm')] if is_kept else [])
            self.raises(NoTrial, {}, edits.end_trial)

    def test_trials_that_are_still_open(self):
        for is_kept in (False, True):
            edits = Edits(SYSTEM)
            with edits.trial():
                if is_kept:
                    edits.keep()
                edits.begin_trial()
                edits.mark('m')
                edits.begin_trial()
                edits.mark('n')
            self.same(len(edits.deeds()), 2 if is_kept else 0)
            self.raises(NoTrial, {}, edits.end_trial)
            with edits.trial():
                edits.mark('o')
                edits.begin_trial()
                edits.mark('q')
                edits.keep()
            self.same(len(edits.deeds()), 2 if is_kept else 0)

    def test_a_block_whose_trial_has_been_ended(self):
        edits = Edits(SYSTEM)
        with edits.trial():
            edits.mark('m')
            edits.end_trial()
            edits.mark('n')
        self.same(edits.deeds(), [('mark', 'n')])
        self.raises(NoTrial, {}, edits.end_trial)
        with edits.trial():
            edits.end_trial()
            edits.begin_trial()
            edits.mark('o')
        self.same(edits.deeds(), [('mark', 'n'), ('mark', 'o')])
        edits.end_trial()
        self.same(edits.deeds(), [('mark', 'n')])

    def test_a_context_manager_for_one_block_after_another(self):
        edits = Edits(SYSTEM)
        trial = edits.trial()
        self.raises(NoTrial, {}, edits.keep)
        for _ in range(3):
            with trial as told:
                told.mark('m')
        self.same(edits.deeds(), [])
        with trial:
            edits.mark('m')
            edits.keep()
        with trial:
            edits.mark('n')
        self.same(edits.deeds(), [('mark', 'm')])

    def test_within_trial(self):
        edits = Edits(SYSTEM)
        told = edits.within_trial(lambda: (edits.mark('m'), edits.deeds()))
        self.same(told, (None, [('mark', 'm')]))
        self.same(edits.deeds(), [])
        edits.within_trial(lambda: (edits.mark('m'), edits.keep()))
        self.same(edits.deeds(), [('mark', 'm')])

        def trouble():
            edits.mark('n')
            edits.begin_trial()
            raise Trouble()
        self.raises(Trouble, {}, edits.within_trial, trouble)
        self.same(edits.deeds(), [('mark', 'm')])
        self.raises(NothingToUndo, {}, edits.within_trial, edits.undo)
        value = object()
        self.assertIs(edits.within_trial(lambda: value), value)
        self.raises(NoTrial, {}, edits.end_trial)


if __name__ == '__main__':
    unittest.main()
