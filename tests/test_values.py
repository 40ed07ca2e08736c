import random
import unittest

from helpers import VALUES, Awkward, Case
from mostcalls.values import is_value, read_value, write_value

WORDS = ('a', 'z', 'calls', 'abcdefghijklmnopqrstuvwxyz', 'none', 'x' * 300)


def some_value(rng, depth=0):
    kind = rng.randrange(8 if depth < 28 else 5)
    if kind == 0:
        return None
    if kind == 1:
        return rng.choice(WORDS)
    if kind == 2:
        return rng.choice((0, 1, -1, 10 ** 30 - 1, 1 - 10 ** 30, 10 ** 29, 10, -10))
    if kind in (3, 4):
        return rng.randint(-10 ** rng.randint(1, 30) + 1, 10 ** rng.randint(1, 30) - 1)
    return tuple(some_value(rng, depth + 1) for _ in range(rng.choice((0, 1, 2, 3)) if depth else rng.randint(0, 6)))


def slow_text(value):
    if value is None:
        return '-'
    if isinstance(value, tuple):
        return ' '.join(['('] + [slow_text(inner) for inner in value] + [')'])
    return str(value)


class ValuesTest(Case):
    def test_drawn_values(self):
        for seed in range(1500):
            value = some_value(random.Random(seed))
            self.assertIs(is_value(value), True)
            text = write_value(value)
            self.same(text, slow_text(value))
            self.same(read_value(text), (value,))

    def test_by_hand(self):
        for value, text in ((None, '-'), (0, '0'), (-7, '-7'), ('abc', 'abc'), ((), '( )'), ((1,), '( 1 )'), (((),), '( ( ) )'),
                            (('a', None, (-1, ((), 'b')), 3), '( a - ( -1 ( ( ) b ) ) 3 )')):
            self.same(write_value(value), text)
            self.same(read_value(text), (value,))

    def test_values_of_any_kind(self):
        for value in VALUES + ('', 'A', 'aB', 'a b', 'a1', 'a_', 'é', 'ı', '-', '(', ')', '0', 'a\n', b'', 1.5, {1}, object(), Case):
            wanted = value is None or type(value) is int or type(value) is str and value in ('a', 'zz', 'abcdefghi')
            if type(value) is tuple:
                wanted = value in ((), (0,), (1, 2), ('a',)) if all(type(item) in (int, str) for item in value) else False
            self.assertIs(is_value(value), wanted)
            for around in ((value,), (1, (value, 2)), ((((value,),),), 'a')):
                self.assertIs(is_value(around), wanted)
        self.assertIs(is_value([1]), False)
        self.assertIs(is_value((1, [2])), False)
        self.assertIs(is_value((1, (2, True))), False)
        self.assertIs(is_value((Awkward(), 1)), False)

    def test_texts_that_write_none(self):
        for text in ('', ' ', '  ', '( ', ' )', '(', ')', '()', '( )( )', '( ) ( )', '( ( )', '( ) )', ') (', '1 2', '- -', 'a b', '( 1 ) 2',
                     '1 ( 2 )', ' 1', '1 ', '(1 )', '( 1)', '(1)', '( 1  2 )', '(  1 )', '( 1 2 ) ', '( 1\t2 )', '( 1 2 )\n', '\n',
                     '-0', '+1', '00', '01', '-01', '--1', '- 1', '-a', 'a-', 'a1', '1a', 'A', 'aB', 'Abc', 'a.b', '1.0', '1_0', '1,2', '( 1, 2 )',
                     '\u0661', '\u00e9', 'None', 'a\n', '1\n', '( - -0 )', '( a  )', '( ' * 5, ') ' * 5, '( ' * 5 + ')', '9' * 31, '-' + '1' * 31,
                     '0' * 30, '-' + '0' * 3, '( 1 2 ) )', "'a'", '"a"', '( a', 'a )', '[ ]'):
            self.same(read_value(text), ())
        for text, value in (('9' * 30, 10 ** 30 - 1), ('-' + '9' * 30, 1 - 10 ** 30), ('1' + '0' * 29, 10 ** 29)):
            self.same(read_value(text), (value,))

    def test_drawn_texts(self):
        """what is read is written to the same text; other texts write nothing."""
        rng = random.Random(3)
        signs = ('(', '(', ')', ')', '-', '0', '7', '-7', 'a', 'bc', '12', '-0', '07', 'A', '')
        read = 0
        for _ in range(20000):
            text = ' '.join(rng.choice(signs) for _ in range(rng.randint(1, 7)))
            if rng.random() < 0.6:
                text = '( ' + text + ' )'
            told = read_value(text)
            self.assertIs(type(told), tuple)
            if told:
                read += 1
                self.same(len(told), 1)
                self.assertIs(is_value(told[0]), True)
                self.same(write_value(told[0]), text)
        self.assertGreater(read, 1000)

    def test_changed_texts(self):
        rng = random.Random(4)
        for seed in range(400):
            text = write_value(some_value(random.Random(seed)))
            place = rng.randrange(len(text))
            changed = text[:place] + rng.choice(' ()-0123456789abzA\n') + text[place + rng.randint(0, 2):]
            told = read_value(changed)
            if told:
                self.same(write_value(told[0]), changed)

    def test_values_that_are_no_texts(self):
        for value in VALUES:
            if not isinstance(value, str):
                self.same(read_value(value), ())

    def test_deep_nesting(self):
        value = 5
        for _ in range(31):
            value = (value,)
        self.assertIs(is_value(value), True)
        self.same(write_value(value), '( ' * 31 + '5' + ' )' * 31)
        self.same(read_value(write_value(value)), (value,))
        self.same(read_value('( ' * 3000), ())
        self.same(read_value('( ' * 3000 + ')'), ())
        self.same(read_value('( ' * 31 + ')' + ' )' * 31), ())

    def test_long_values(self):
        value = tuple((number, 'row', None, tuple(range(number % 7))) for number in range(20000))
        self.assertIs(is_value(value), True)
        self.assertEqual(read_value(write_value(value)), (value,))

    def test_named_arguments(self):
        self.assertIs(is_value(value=3), True)
        self.same(write_value(value=(3,)), '( 3 )')
        self.same(read_value(text='( 3 )'), ((3,),))


if __name__ == '__main__':
    unittest.main()
