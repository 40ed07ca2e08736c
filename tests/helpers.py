"""What several tests need."""

import unittest


class Awkward:
    """a value that does not let itself be compared, hashed, tested, counted or shown."""

    def _no(self, *_):
        raise AssertionError('a value was asked what it does not answer')

    __eq__ = __ne__ = __lt__ = __le__ = __gt__ = __ge__ = __hash__ = __bool__ = __len__ = __iter__ = _no
    __contains__ = __repr__ = __str__ = __getitem__ = __index__ = __add__ = __call__ = _no


# Values of all kinds; what is right somewhere is taken out there.
VALUES = (None, True, False, 0, 1, -1, 3, 10 ** 29, '', 'a', 'zz', 'A', 'a b', 'abcdefghi', b'a', [], [1], ['a'], (),
          (0,), (1, 2), ('a',), (True,), {}, {'a': 1}, {(0,): 1}, frozenset(), range(3), len, Awkward, Awkward(),
          (Awkward(),), [Awkward()])


def tuples_around(value):
    return (value,), (value, value), ('stop', value), ('run', 0, value), ('calls', value)


class Case(unittest.TestCase):
    """a test case that also looks at the fields of an error."""

    def raises(self, error, fields, call, *args, **named):
        """the call raises just this error, with just these fields: a dict."""
        try:
            result = call(*args, **named)
        except Exception as raised:
            self.assertIs(type(raised), error)
            self.assertEqual(sorted(vars(raised)), sorted(fields))
            for name in fields:
                self.same(getattr(raised, name), fields[name])
        else:
            self.fail('no error, but %r' % (result,))

    def same(self, told, wanted):
        """equal, and of the same kind: True is not 1."""
        if told is wanted:
            return
        self.assertIs(type(told), type(wanted))
        self.assertEqual(told, wanted)
        if isinstance(wanted, (list, tuple)):
            for one, other in zip(told, wanted):
                self.same(one, other)
