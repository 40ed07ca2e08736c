import itertools
import unittest

from helpers import VALUES, Awkward, Case
from mostcalls.errors import InvalidRows
from mostcalls.rows import Rows


class RowsTest(Case):
    def test_the_three_dicts(self):
        rows = Rows({0: 5, 3: 0}, {2: 7}, {1: -4, 10 ** 29: 10 ** 29})
        self.same(rows.answers, {0: 5, 3: 0})
        self.same(rows.fails, {2: 7})
        self.same(rows.stops, {1: -4, 10 ** 29: 10 ** 29})
        rows = Rows(stops={}, fails={1: 2}, answers={0: 0})
        self.same([rows.answers, rows.fails, rows.stops], [{0: 0}, {1: 2}, {}])

    def test_what_is_handed_in_can_be_changed(self):
        dicts = [{0: 1}, {0: 2}, {0: 3}]
        rows = Rows(*dicts)
        for number, row in enumerate(dicts):
            row[0] = 9
            row[number] = 8
        self.same([rows.answers, rows.fails, rows.stops], [{0: 1}, {0: 2}, {0: 3}])

    def test_what_is_returned_can_be_changed(self):
        rows = Rows({0: 1}, {0: 2}, {0: 3})
        for field in ('answers', 'fails', 'stops'):
            getattr(rows, field)[0] = 9
            getattr(rows, field).clear()
        self.same([rows.answers, rows.fails, rows.stops], [{0: 1}, {0: 2}, {0: 3}])
        self.assertEqual(rows, Rows({0: 1}, {0: 2}, {0: 3}))
        self.assertEqual(rows.greatest(), 2)

    def test_properties_are_not_set(self):
        rows = Rows({}, {}, {})
        for field in ('answers', 'fails', 'stops'):
            with self.assertRaises(AttributeError):
                setattr(rows, field, {})

    def test_greatest(self):
        self.assertIsNone(Rows({}, {}, {}).greatest())
        self.assertIsNone(Rows({}, {}, {0: 5}).greatest())
        self.same(Rows({0: 5}, {}, {0: 9}).greatest(), 5)
        self.same(Rows({}, {3: 4, 2: 8, 9: 7}, {}).greatest(), 8)
        self.same(Rows({0: 1, 1: 6, 2: 3}, {0: 2, 5: 5}, {0: 9}).greatest(), 6)
        self.same(Rows({0: 1}, {0: 2}, {}).greatest(), 2)
        self.same(Rows({7: 0}, {}, {}).greatest(), 0)
        self.same(Rows({7: -3}, {8: -2}, {}).greatest(), -2)

    def test_equal_if_all_three_are(self):
        makers = [lambda: Rows({}, {}, {}), lambda: Rows({0: 1}, {}, {}), lambda: Rows({}, {0: 1}, {}),
                  lambda: Rows({}, {}, {0: 1}), lambda: Rows({0: 2}, {}, {}), lambda: Rows({1: 1}, {}, {}),
                  lambda: Rows({0: 1, 1: 2}, {}, {}), lambda: Rows({0: 1}, {0: 1}, {0: 1})]
        for (i, one), (k, other) in itertools.product(enumerate(makers), repeat=2):
            self.assertIs(one() == other(), i == k)
            self.assertIs(one() != other(), i != k)
        self.assertEqual(Rows({0: 1, 1: 2}, {}, {}), Rows({1: 2, 0: 1}, {}, {}))

    def test_values_of_other_kinds_are_unequal(self):
        for value in VALUES + (({}, {}, {}), [{}, {}, {}]):
            self.assertIs(Rows({}, {}, {}) == value, False)
            self.assertIs(Rows({}, {}, {}) != value, True)

    def test_the_first_that_is_none(self):
        wrong = [value for value in VALUES if value is not VALUES[0] and not (isinstance(value, dict) and not value)]
        wrong += [None, {-1: 0}, {True: 1}, {False: 0}, {'0': 0}, {None: 0}, {(0,): 0}, {0: True}, {0: False}, {0: None},
                  {0: '0'}, {0: (1,)}, {0: [1]}, {0: Awkward()}, {0: 1, 1: 2, -2: 3}, {0: 1, 1: None}, [(0, 1)],
                  ((0, 1),), Rows({}, {}, {})]
        for value in wrong:
            self.raises(InvalidRows, {'value': value}, Rows, value, {}, {})
            self.raises(InvalidRows, {'value': value}, Rows, {0: 1}, value, {})
            self.raises(InvalidRows, {'value': value}, Rows, {0: 1}, {2: 3}, value)
        first, second, third = {-1: 0}, {0: None}, [5]
        self.raises(InvalidRows, {'value': first}, Rows, first, second, third)
        self.raises(InvalidRows, {'value': second}, Rows, {}, second, third)


if __name__ == '__main__':
    unittest.main()
