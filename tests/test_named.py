"""All functions, classes and methods of the interface that take something, called with named arguments, the last first."""

import inspect
import unittest

from helpers import Case
from mostcalls.changes import change_paper
from mostcalls.console import Console
from mostcalls.counts import Counts
from mostcalls.dossiers import dossier
from mostcalls.edits import Edits
from mostcalls.journals import write_journal
from mostcalls.lanes import Lane
from mostcalls.lines import Line
from mostcalls.logs import log_of
from mostcalls.longrun import ring_paper
from mostcalls.machine import Run, play
from mostcalls.papers import bound_paper
from mostcalls.patterns import Pattern
from mostcalls.policies import Policy
from mostcalls.rows import Rows
from mostcalls.shelves import Shelf
from mostcalls.systems import System
from mostcalls.tables import Table, risk_table, run_table
from test_errors import ROWS
from test_interface import CLASSES, FUNCTIONS, module

P = Policy('p', 3, tries=3, pauses=(1, 2), lossy=True, ending=('stop', 1))
SYSTEM = System([P], [('a', (('run', 0, 4), ('risk',))), ('b', (('call', 'a', 'p'),))])
PATTERN = Pattern('b', {(0, 0, 0): 4, (0, 1, 1): 1})
RUN = play(SYSTEM, PATTERN)
MEASURE = ('work', 'a')
LANE = Lane(SYSTEM, 'b', gap=(0, 2), budget=(1, 2, 2), breaker=(2, 3))
LINE = Line(((1, 2, 4),), gap=2, limit=3)
OFFERS = [('p', 'tries', 1, 4), ('p', 'limit', 2, 3)]
WISHES = [(('calls', 'a'), 'b', 2)]
STEP = ((True,), 1)


def shelf_of(entry):
    shelf = Shelf(SYSTEM)
    shelf.dossier(entry)
    return shelf


# The arguments of functions, by position.
CALLS = {
    'format_system': (SYSTEM,), 'parse_system': ('service a\nend',), 'all_patterns': (SYSTEM, 'a'), 'play': (SYSTEM, PATTERN),
    'run_table': (1, 3, 2), 'call_table': (P, run_table(0, 3), 1), 'want_table': (risk_table(),), 'greatest_calls': (SYSTEM, 'b'),
    'answer_times': (SYSTEM, 'b'), 'fail_times': (SYSTEM, 'b'), 'last_tick': (SYSTEM, 'b'), 'slowest': (SYSTEM, 'b'),
    'latest': (SYSTEM, 'b'), 'hopeless': (SYSTEM,), 'inversions': (SYSTEM, 'b', MEASURE, 'p'), 'greatest_mean': (LANE, MEASURE),
    'ring_paper': (LANE, MEASURE), 'check_ring': (LANE, MEASURE, ring_paper(LANE, MEASURE)),
    'ring_patterns': (LANE, MEASURE, ring_paper(LANE, MEASURE)), 'fate': (LINE, 1, 2), 'feeds': (LINE, 1, 2), 'least_burst': (LINE, 5),
    'least_outage': (LINE, 5), 'greatest_gap': (LINE, 1), 'changed_system': (SYSTEM, OFFERS, (0, 1)),
    'least_change': (SYSTEM, OFFERS, WISHES), 'change_paper': (SYSTEM, OFFERS, WISHES),
    'check_change': (SYSTEM, OFFERS, WISHES, change_paper(SYSTEM, OFFERS, WISHES)), 'log_of': (RUN,),
    'judged': (SYSTEM, 'b', log_of(RUN)[1:]), 'explained': (SYSTEM, 'b', log_of(RUN)), 'write_journal': (Edits(SYSTEM),),
    'recover': (SYSTEM, write_journal(Edits(SYSTEM))), 'ask': (SYSTEM, 'answer b'), 'dossier': (SYSTEM, 'b'),
    'check_dossier': (SYSTEM, 'b', dossier(SYSTEM, 'b')), 'is_value': ((1, None),), 'write_value': ((1, None),), 'read_value': ('( 1 )',),
    'read_shelf': (SYSTEM, shelf_of('b').text()), 'bound_paper': (SYSTEM, 'b', MEASURE),
    'check_bound': (SYSTEM, 'b', MEASURE, bound_paper(SYSTEM, 'b', MEASURE)),
}
# How objects are built, by names, and the arguments of their methods, by position.
OBJECTS = {
    'Policy': (dict(name='p', limit=3, tries=2, pauses=(1,), early=None, lossy=True, ending=('go',)), {}),
    'System': (dict(policies=[P], services=[('a', ()), ('b', (('call', 'a', 'p'),))]), {
        'policy': ('p',), 'span': ('b',), 'callees': ('b',), 'with_policy': (P,), 'with_block': ('a', (('risk',),)),
        'with_service': ('c', (('risk',),))}),
    'Pattern': (dict(entry='b', choices={(0, 1): 1}), {'__call__': ((0, 1),)}),
    'Run': (None, {'measured': (MEASURE,), 'unwanted': ((0, 0),)}),
    'Rows': (dict(answers={1: 2}, fails={2: 3}, stops={}), {}),
    'Table': (dict(rows=lambda left: Rows({0: 1}, {}, {})), {'__call__': (3,)}),
    'Counts': (dict(system=SYSTEM, measure=('work', 'a', 2)), {
        'table': ('b',), 'ends': ('b', 'answered'), 'number_at': ('b', 'answered', 4), 'greatest': ('b',), 'best': ('b', 1),
        'best_at': ('b', 'answered', 4, 1)}),
    'Lane': (dict(system=SYSTEM, entry='b', gap=(0, 2), budget=(1, 2, 2), breaker=(2, 3)), {
        'steps': (LANE.first(),), 'after': (LANE.first(), STEP), 'weight': (MEASURE, STEP), 'request': (LANE.first(), PATTERN, 1)}),
    'Edits': (dict(system=SYSTEM), {
        'set_policy': (P,), 'set_block': ('a', (('risk',),)), 'mark': ('m',), 'back': ('m',), 'within_trial': (lambda: 5,)}),
    'Console': ({}, {'execute': ('system service a;end',)}),
    'Shelf': (dict(system=SYSTEM), {
        'put': (dossier(SYSTEM, 'b'),), 'dossier': ('b',), 'numbers': ('b',), 'carried': (SYSTEM,)}),
    'Line': (dict(stations=((1, 2, 4),), gap=2, limit=3, tries=2, pause=2, ending='stop'), {
        'first': (2, 3), 'next': (LINE.first(), True), 'run': (1, 4, 2)}),
}


def told(result):
    """what can be compared of a result."""
    if inspect.isgenerator(result):
        return list(result)
    if isinstance(result, tuple):
        return tuple(told(item) for item in result)
    if isinstance(result, Table):
        return result(None), result(5)
    if isinstance(result, Shelf):
        return result.text(), result.system
    if isinstance(result, Edits):
        return result.system, result.deeds(), len(result)
    if isinstance(result, Counts):
        return result.measure, result.greatest('b')
    if isinstance(result, Lane):
        return result.system, result.entry, list(result)
    return None if isinstance(result, Console) else result


class NamedTest(Case):
    def named(self, function, values):
        """the arguments by names, the last first."""
        names = [name for name in inspect.signature(function).parameters if name != 'self']
        self.assertEqual(len(names), len(values), function)
        return dict(reversed(list(zip(names, values))))

    def test_functions(self):
        left = dict(CALLS)
        for file, functions in FUNCTIONS.items():
            for name, arguments in functions.items():
                if arguments != '()':
                    function, values = getattr(module(file), name), left.pop(name)
                    self.assertEqual(told(function(**self.named(function, values))), told(function(*values)), name)
        self.assertFalse(left)

    def built(self, found, fields, backwards):
        if fields is None:
            return play(SYSTEM, PATTERN)
        built = found(**dict(reversed(list(fields.items())) if backwards else fields))
        if isinstance(built, Edits):
            built.mark('m')
        return built

    def test_classes_and_methods(self):
        for file, classes in CLASSES.items():
            for name in classes:
                found = getattr(module(file), name)
                fields, methods = OBJECTS[name]
                if fields is not None:
                    self.assertEqual(set(inspect.signature(found).parameters), set(fields))
                if found is not Table:
                    self.assertEqual(told(self.built(found, fields, True)), told(self.built(found, fields, False)))
                for word, arguments in classes[name][2].items():
                    if arguments == '(self)' or word == 'changed':
                        continue
                    values = methods[word]
                    one, other = self.built(found, fields, True), self.built(found, fields, False)
                    result = getattr(one, word)(**self.named(getattr(found, word), values))
                    self.assertEqual(told(result), told(getattr(other, word)(*values)), (name, word))
        self.assertIs(type(RUN), Run)

    def test_changed_policies(self):
        self.assertEqual(P.changed(limit=4, ending=('go',)), P.changed(ending=('go',), limit=4))

    def test_errors(self):
        for _, name, fields in ROWS:
            error = getattr(module('errors'), name)
            values = {field: object() for field in fields[::-1]}
            self.assertEqual(vars(error(**values)), values)


if __name__ == '__main__':
    unittest.main()
