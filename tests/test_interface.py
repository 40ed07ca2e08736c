"""The names, arguments and places that the interface of the document lists."""

import importlib
import inspect
import unittest

FUNCTIONS = {
    'printing': {'format_system': '(system)'},
    'texts': {'parse_system': '(text)'},
    'patterns': {'all_patterns': '(system, entry)'},
    'machine': {'play': '(system, pattern)'},
    'tables': {'empty_table': '()', 'risk_table': '()', 'run_table': '(lo, hi, weight=0)'},
    'tries': {'call_table': '(policy, callee, cost=0)', 'want_table': '(table)'},
    'counts': {'greatest_calls': '(system, entry)'},
    'times': {'answer_times': '(system, entry)', 'fail_times': '(system, entry)', 'last_tick': '(system, entry)',
              'slowest': '(system, entry)', 'latest': '(system, entry)', 'hopeless': '(system)',
              'inversions': '(system, entry, measure, policy)'},
    'longrun': {'greatest_mean': '(lane, measure)', 'ring_paper': '(lane, measure)',
                'check_ring': '(lane, measure, paper)', 'ring_patterns': '(lane, measure, paper)'},
    'lines': {'fate': '(line, burst, outage=0)', 'feeds': '(line, burst, outage=0)', 'least_burst': '(line, most)',
              'least_outage': '(line, most)', 'greatest_gap': '(line, burst)'},
    'changes': {'changed_system': '(system, offers, choice)', 'least_change': '(system, offers, wishes)',
                'change_paper': '(system, offers, wishes)', 'check_change': '(system, offers, wishes, paper)'},
    'logs': {'log_of': '(run)', 'judged': '(system, entry, log)', 'explained': '(system, entry, log)'},
    'journals': {'write_journal': '(edits)', 'recover': '(system, text)'},
    'questions': {'ask': '(system, text)'},
    'dossiers': {'dossier': '(system, entry)', 'check_dossier': '(system, entry, value)'},
    'values': {'is_value': '(value)', 'write_value': '(value)', 'read_value': '(text)'},
    'shelves': {'read_shelf': '(system, text)'},
    'papers': {'bound_paper': '(system, entry, measure)', 'check_bound': '(system, entry, measure, paper)'},
}
# Per class: how it is built (None: by the package alone), its properties, its methods, its operators.
CLASSES = {
    'policies': {'Policy': (
        "(name, limit, *, tries=1, pauses=None, early=None, lossy=False, ending=('go',))",
        ('name', 'limit', 'tries', 'pauses', 'early', 'lossy', 'ending'), {'changed': '(self, **fields)'}, ('__eq__',))},
    'systems': {'System': (
        '(policies, services)', (), {
            'policies': '(self)', 'services': '(self)', 'policy': '(self, name)', 'span': '(self, name)',
            'callees': '(self, name)', 'with_policy': '(self, policy)', 'with_block': '(self, name, block)',
            'with_service': '(self, name, block)'},
        ('__eq__', '__getitem__', '__contains__', '__len__', '__iter__'))},
    'patterns': {'Pattern': (
        '(entry, choices)', ('entry',), {'choices': '(self)', '__call__': '(self, path)'},
        ('__eq__', '__contains__', '__len__', '__iter__', '__or__'))},
    'machine': {'Run': (
        None, ('how', 'end', 'last', 'faults'), {
            'spans': '(self)', 'met': '(self)', 'measured': '(self, measure)', 'unwanted': '(self, path)',
            'worked': '(self)'},
        ('__eq__', '__len__', '__iter__'))},
    'rows': {'Rows': ('(answers, fails, stops)', ('answers', 'fails', 'stops'), {'greatest': '(self)'}, ('__eq__',))},
    'tables': {'Table': ('(rows)', (), {'__call__': '(self, left=None)'}, ('__rshift__', '__or__', '__and__'))},
    'counts': {'Counts': (
        '(system, measure)', ('measure',), {
            'table': '(self, name)', 'ends': '(self, name, how)', 'number_at': '(self, name, how, tick)',
            'greatest': '(self, name)', 'best': '(self, name, faults=None)',
            'best_at': '(self, name, how, tick, faults=None)'},
        ())},
    'lanes': {'Lane': (
        '(system, entry, *, gap=(0, 0), budget=None, breaker=None)', ('system', 'entry', 'gap', 'budget', 'breaker'), {
            'first': '(self)', 'steps': '(self, state)', 'after': '(self, state, step)',
            'weight': '(self, measure, step)', 'request': '(self, state, pattern, gap)'},
        ('__contains__', '__len__', '__iter__'))},
    'edits': {'Edits': (
        '(system)', ('system',), {
            'set_policy': '(self, policy)', 'set_block': '(self, name, block)', 'undo': '(self)', 'redo': '(self)',
            'mark': '(self, name)', 'back': '(self, name)', 'deeds': '(self)', 'begin_trial': '(self)',
            'end_trial': '(self)', 'keep': '(self)', 'trial': '(self)', 'within_trial': '(self, call)'},
        ('__len__',))},
    'console': {'Console': ('()', (), {'execute': '(self, command)'}, ())},
    'shelves': {'Shelf': (
        '(system)', ('system',), {
            'put': '(self, value)', 'entries': '(self)', 'dossier': '(self, entry)', 'numbers': '(self, entry)',
            'text': '(self)', 'carried': '(self, system)'},
        ('__len__',))},
    'lines': {'Line': (
        "(stations, *, gap, limit, tries=1, pause=1, ending='go')",
        ('stations', 'gap', 'limit', 'tries', 'pause', 'ending'), {
            'first': '(self, burst=0, outage=0)', 'next': '(self, state, is_down=False)',
            'run': '(self, burst, ticks, outage=0)'},
        ('__eq__',))},
}


def module(name):
    return importlib.import_module('mostcalls.' + name)


class InterfaceTest(unittest.TestCase):
    def test_functions(self):
        for file, functions in FUNCTIONS.items():
            for name, arguments in functions.items():
                with self.subTest(name):
                    function = getattr(module(file), name)
                    self.assertTrue(inspect.isfunction(function))
                    self.assertEqual(function.__module__, 'mostcalls.' + file)
                    self.assertEqual(str(inspect.signature(function)), arguments)

    def test_classes(self):
        for file, classes in CLASSES.items():
            for name, (arguments, properties, methods, operators) in classes.items():
                with self.subTest(name):
                    found = getattr(module(file), name)
                    self.assertTrue(inspect.isclass(found))
                    self.assertEqual(found.__module__, 'mostcalls.' + file)
                    if arguments is not None:
                        self.assertEqual(str(inspect.signature(found)), arguments)
                    for word in properties:
                        self.assertIsInstance(vars(found)[word], property)
                    for word, told in methods.items():
                        self.assertEqual(str(inspect.signature(vars(found)[word])), told)
                    for word in operators + ('__init__',):
                        self.assertTrue(inspect.isfunction(vars(found)[word]))

    def test_all_patterns_is_a_generator(self):
        self.assertTrue(inspect.isgeneratorfunction(module('patterns').all_patterns))
        self.assertTrue(inspect.isgeneratorfunction(module('lines').Line.run))


if __name__ == '__main__':
    unittest.main()
