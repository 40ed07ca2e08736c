import random
import unittest

from helpers import VALUES, Case
from mostcalls.dossiers import check_dossier, dossier
from mostcalls.errors import InvalidServices, InvalidText, UnknownName
from mostcalls.policies import Policy
from mostcalls.shelves import Shelf, read_shelf
from mostcalls.systems import System
from mostcalls.values import read_value, write_value
from samples import some_system
from test_dossiers import changed, numbers

SYSTEM = System([Policy('p', 2, tries=2, lossy=True, ending=('stop', 1))],
                [('a', (('run', 1, 9), ('risk',))), ('b', (('call', 'a', 'p'),)), ('c', (('maybe', (('want', 'b', 'p'),)),))])


def full(system):
    shelf = Shelf(system)
    for name in system:
        shelf.dossier(name)
    return shelf


class ShelfCase(Case):
    def same_shelf(self, shelf, system, kept):
        """a shelf of this system with these dossiers, by entries."""
        self.assertEqual(shelf.system, system)
        self.same(shelf.entries(), [name for name in system if name in kept])
        self.same(len(shelf), len(kept))
        self.same(shelf.text(), ''.join(write_value(kept[name]) + '\n' for name in system if name in kept))
        for name in kept:
            self.assertEqual(shelf.dossier(name), kept[name])
            self.same(list(shelf.numbers(name).items()), list(numbers(system, name).items()))


class ShelfTest(ShelfCase):
    def test_drawn_systems(self):
        for seed in range(25):
            rng = random.Random(seed)
            system = some_system(seed, 3)
            shelf, kept = Shelf(system), {}
            self.same_shelf(shelf, system, kept)
            for _ in range(6):
                entry = rng.choice(system.services())
                kind = rng.randrange(4)
                value = dossier(system, entry)
                if kind == 0:
                    self.assertEqual(shelf.dossier(entry), kept.setdefault(entry, value))
                elif kind == 1:
                    self.same(list(shelf.numbers(entry).items()), list(numbers(system, entry).items()))
                    kept.setdefault(entry, value)
                else:
                    value = changed(rng, value) if kind == 2 else value
                    is_right = type(value) is tuple and len(value) > 0 and value[0] in system.services() \
                        and check_dossier(system, value[0], value) is not None
                    self.assertIs(shelf.put(value), is_right)
                    if is_right:
                        kept[value[0]] = value
                self.same_shelf(shelf, system, kept)

    def test_put_in_place_of_another_one(self):
        shelf = Shelf(SYSTEM)
        first = shelf.dossier('b')
        # Choices for paths that lead nowhere do nothing, so this one is right, too.
        case = first[1][2][:2] + (first[1][2][2] + (((9, 9), 1),),) + first[1][2][3:]
        other = (first[0], first[1][:2] + (case,) + first[1][3:], first[2])
        self.assertNotEqual(first, other)
        self.assertIs(shelf.put(other), True)
        self.same(shelf.dossier('b'), other)
        self.same(len(shelf), 1)
        self.assertIs(shelf.put(first), True)
        self.same(shelf.dossier('b'), first)
        wrong = (first[0], ((case[0], case[1] + 1) + case[2:],) + first[1][1:], first[2])
        self.assertIs(shelf.put(wrong), False)
        self.same(shelf.dossier('b'), first)

    def test_any_value_is_put(self):
        shelf = Shelf(SYSTEM)
        value = dossier(SYSTEM, 'b')
        for other in VALUES + (list(value), value[:2], value[:1], value + (1,), ('x',) + value[1:], ('a',) + value[1:], (None,) + value[1:],
                               (['b'],) + value[1:], write_value(value), (value,), ('b', None, None), ('b', (), None)):
            self.assertIs(shelf.put(other), False)
        self.same((len(shelf), shelf.entries(), shelf.text()), (0, [], ''))

    def test_the_order_of_the_system(self):
        shelf = Shelf(SYSTEM)
        for name in ('c', 'a', 'b'):
            shelf.dossier(name)
        self.same(shelf.entries(), ['a', 'b', 'c'])
        self.same([line.split(' ')[1] for line in shelf.text().splitlines()], ['a', 'b', 'c'])

    def test_told_lists_and_dicts_are_new(self):
        shelf = full(SYSTEM)
        shelf.entries().clear()
        shelf.numbers('b').clear()
        self.same(shelf.entries(), ['a', 'b', 'c'])
        self.same(list(shelf.numbers('b').items()), list(numbers(SYSTEM, 'b').items()))

    def test_what_is_asked_is_kept(self):
        shelf = Shelf(SYSTEM)
        shelf.numbers('c')
        self.same(shelf.entries(), ['c'])
        self.same(shelf.dossier('c'), dossier(SYSTEM, 'c'))
        shelf.dossier('a')
        self.same(len(shelf), 2)

    def test_unknown_names(self):
        shelf = Shelf(SYSTEM)
        for value in VALUES + ('p', 'x'):
            if not (isinstance(value, str) and value == 'a'):
                self.raises(UnknownName, {'value': value}, shelf.dossier, value)
                self.raises(UnknownName, {'value': value}, shelf.numbers, value)
        self.same(len(shelf), 0)

    def test_values_that_are_no_systems(self):
        for value in VALUES + ([], 'service a\nend', Shelf(SYSTEM)):
            self.raises(InvalidServices, {'number': None}, Shelf, value)
            self.raises(InvalidServices, {'number': None}, Shelf(SYSTEM).carried, value)
            self.raises(InvalidServices, {'number': None}, read_shelf, value, None)

    def test_carried(self):
        for seed in range(25):
            rng = random.Random(seed)
            system = some_system(seed, 3)
            shelf = full(system)
            kept = {name: shelf.dossier(name) for name in system}
            equal = System([system.policy(name) for name in system.policies()], [(name, system[name]) for name in system])
            self.same_shelf(shelf.carried(equal), equal, kept)
            name = rng.choice(system.services())
            for other in (system.with_block(name, (('run', 0, 3),)), some_system(seed + 50, 3), some_system(seed, 4),
                          system.with_service('more', ()), System([], [('z', ())])):
                right = {entry: kept[entry] for entry in system if entry in other and check_dossier(other, entry, kept[entry]) is not None}
                self.same_shelf(shelf.carried(other), other, right)
            self.same_shelf(shelf, system, kept)

    def test_carried_to_an_equal_part(self):
        """a dossier of an entry stays right if what the entry does not call is another one."""
        shelf = full(SYSTEM)
        other = SYSTEM.with_block('c', (('run', 1, 2),))
        self.same(shelf.carried(other).entries(), ['a', 'b'])
        self.same(Shelf(SYSTEM).carried(other).entries(), [])

    def test_named_arguments(self):
        shelf = Shelf(system=SYSTEM)
        self.assertIs(shelf.put(value=dossier(SYSTEM, 'a')), True)
        self.assertIsNotNone(shelf.dossier(entry='b'))
        self.assertIsNotNone(shelf.numbers(entry='b'))
        self.same(len(shelf.carried(system=SYSTEM)), 2)
        self.same(read_shelf(text=shelf.text(), system=SYSTEM)[1], 0)


class ReadShelfTest(ShelfCase):
    def reads(self, system, text, kept, number):
        told = read_shelf(system, text)
        self.assertIs(type(told), tuple)
        self.same(told[1], number)
        self.same_shelf(told[0], system, kept)

    def test_whole_texts(self):
        for seed in range(25):
            system = some_system(seed, 3)
            shelf = full(system)
            kept = {name: shelf.dossier(name) for name in system}
            self.reads(system, shelf.text(), kept, 0)
            self.reads(system, shelf.text()[:-1], kept, 0)
            self.reads(system, '\n' + shelf.text() + '\n', kept, 2)

    def test_changed_texts(self):
        """whatever text it is, the shelf tells exact numbers."""
        dropped, stayed = 0, 0
        for seed in range(25):
            rng = random.Random(seed)
            system = some_system(seed, 2)
            lines = full(system).text().splitlines()
            for _ in range(12):
                rows = list(lines)
                for _ in range(rng.choice((1, 1, 2))):
                    at = rng.randrange(len(rows)) if rows else 0
                    kind = rng.randrange(6)
                    if kind == 0 and rows:
                        place = rng.randrange(len(rows[at]) + 1)
                        rows[at] = rows[at][:place] + rng.choice('() -0123456789ab\n') + rows[at][place + rng.randint(0, 1):]
                    elif kind == 1 and rows:
                        rows[at] = rows[at][:rng.randrange(len(rows[at]) + 1)]
                    elif kind == 2 and rows:
                        rows.insert(rng.randint(0, len(rows)), rows[at])
                    elif kind == 3:
                        rng.shuffle(rows)
                    elif kind == 4:
                        other = some_system(seed + 1, 2)
                        rows.insert(at, write_value(dossier(other, 'a')))
                    elif kind == 5 and rows:
                        rows.insert(at, write_value(changed(rng, read_value(lines[0])[0])))
                text = '\n'.join(rows) + rng.choice(('', '\n'))
                kept, number = {}, 0
                told = text.split('\n')
                for line in told[:-1] if told[-1] == '' else told:
                    value = read_value(line)
                    entry = value[0][0] if value and type(value[0]) is tuple and value[0] else None
                    if entry in ('a', 'b') and check_dossier(system, entry, value[0]) is not None:
                        kept[entry] = value[0]
                        stayed += 1
                    else:
                        number += 1
                dropped += number
                self.reads(system, text, kept, number)
        self.assertGreater(dropped, 80)
        self.assertGreater(stayed, 300)

    def test_later_lines_in_place_of_earlier_ones(self):
        first = dossier(SYSTEM, 'b')
        case = first[1][2][:2] + (first[1][2][2] + (((9, 9), 1),),) + first[1][2][3:]
        other = (first[0], first[1][:2] + (case,) + first[1][3:], first[2])
        rows = {first: write_value(first), other: write_value(other)}
        self.reads(SYSTEM, rows[first] + '\n' + rows[other] + '\n', {'b': other}, 0)
        self.reads(SYSTEM, rows[other] + '\n' + rows[first], {'b': first}, 0)
        self.reads(SYSTEM, rows[first] + '\n' + rows[other] + '\n' + rows[first] + '\n', {'b': first}, 0)
        self.reads(SYSTEM, rows[first] + '\n' + rows[other][:-1] + '\n', {'b': first}, 1)

    def test_other_lines(self):
        for text, number in (('', 0), ('\n', 1), ('\n\n', 2), ('x', 1), ('x\n', 1), ('x\ny', 2), (' ', 1), ('( b )', 1), ('( )\n-\n0', 3),
                             ('\r\n', 1)):
            self.reads(SYSTEM, text, {}, number)
        row = write_value(dossier(SYSTEM, 'a'))
        for text, number in ((row, 0), (row + '\n', 0), (row + '\n\n', 1), ('\n' + row, 1), (row + '\nx', 1), (row + '\n' + row, 0)):
            self.reads(SYSTEM, text, {'a': dossier(SYSTEM, 'a')}, number)
        for text in (row + ' ', ' ' + row, row + '\r\n', row + ' ' + row, row.upper(), row[:-1], '( ' + row + ' )', row.replace(' ', '  ', 1)):
            self.reads(SYSTEM, text, {}, 1)

    def test_of_other_systems(self):
        text = full(SYSTEM).text()
        shelf, number = read_shelf(SYSTEM.with_block('c', ()), text)
        self.same((shelf.entries(), number), (['a', 'b'], 1))
        shelf, number = read_shelf(System([], [('z', ())]), text)
        self.same((shelf.entries(), number), ([], 3))

    def test_values_that_are_no_texts(self):
        for value in VALUES:
            if not isinstance(value, str):
                self.raises(InvalidText, {'line': None}, read_shelf, SYSTEM, value)
                self.raises(InvalidServices, {'number': None}, read_shelf, None, value)


if __name__ == '__main__':
    unittest.main()
