import random
import unittest

from brute import greatest, measures_of, small_systems
from helpers import VALUES, Awkward, Case, tuples_around
from mostcalls.counts import Counts
from mostcalls.errors import InvalidMeasure, UnknownName
from mostcalls.papers import bound_paper, check_bound
from mostcalls.texts import parse_system
from samples import some_system

SYSTEM = parse_system('policy p limit 2 tries 2 stop 1\nservice a\n  run 1 9\nend\nservice b\n  call a p\nend')
CALLS = ('calls', 'a')


def at_least(number, other):
    """whether a number is at least another one, or each element of a tuple."""
    if isinstance(other, tuple):
        return all(two is None or one is not None and one >= two for one, two in zip(number, other))
    return number >= other


def with_row(paper, place, row):
    return paper[:place] + (row,) + paper[place + 1:]


def with_told(paper, place, column, told):
    """the paper with other ticks and numbers in one of the three rows of a tuple."""
    row = paper[place]
    return with_row(paper, place, row[:column] + (told,) + row[column + 1:])


def less(number):
    return number[:-1] + (number[-1] - 1,) if isinstance(number, tuple) else number - 1


def more(number):
    return number[:-1] + (number[-1] + 5,) if isinstance(number, tuple) else number + 5


class ExampleTest(Case):
    def test_of_the_document(self):
        paper = bound_paper(SYSTEM, 'b', CALLS)
        self.same(check_bound(SYSTEM, 'b', CALLS, paper), 2)
        self.assertIsNone(check_bound(SYSTEM, 'b', CALLS, paper[1:]))

    def test_by_hand(self):
        a = ('a', None, None, tuple((tick, 0) for tick in range(1, 10)), (), tuple((tick, 0) for tick in range(9)))
        b = ('b', None, None, ((1, 1), (2, 1), (3, 2), (4, 2)), ((4, 2),), ((0, 1), (1, 1), (2, 2), (3, 2)))
        self.assertEqual(sorted(bound_paper(SYSTEM, 'b', CALLS)), [a, b])
        self.same(check_bound(SYSTEM, 'b', CALLS, (a, b)), 2)
        self.same(check_bound(SYSTEM, 'b', CALLS, (b, a)), 2)
        self.same(check_bound(SYSTEM, 'a', CALLS, (a,)), 0)
        self.same(check_bound(SYSTEM, 'a', CALLS, (b, a)), 0)
        self.assertIsNone(check_bound(SYSTEM, 'b', CALLS, (b,)))
        self.assertIsNone(check_bound(SYSTEM, 'b', CALLS, (a,)))
        self.assertIsNone(check_bound(SYSTEM, 'b', CALLS, ()))
        self.assertIsNone(check_bound(SYSTEM, 'b', CALLS, (a, b, b)))
        self.assertIsNone(check_bound(SYSTEM, 'b', CALLS, (a, a, b)))
        self.assertIsNone(check_bound(SYSTEM, 'b', CALLS, [a, b]))

    def test_work_for_nobody_by_hand(self):
        measure = ('nobody', 'a')
        paper = bound_paper(SYSTEM, 'b', measure)
        self.same(check_bound(SYSTEM, 'b', measure, paper), 2)
        self.assertEqual([row[:3] for row in paper if row[0] == 'a'], [('a', None, wanted) for wanted in (None, 0, 1, 2)])
        told = {row[2]: row[3] for row in paper if row[0] == 'a'}
        self.assertEqual(told[0][:3], ((1, 1), (2, 2), (3, 3)))
        self.assertEqual(told[2][:4], ((1, 0), (2, 0), (3, 1), (4, 2)))
        self.assertEqual(dict(told[None]), {tick: 0 for tick in range(1, 10)})

    def test_rows_for_ticks_at_which_no_try_can_be_given_up_are_not_needed(self):
        for lossy, wanted in (('', [None, 0, 1]), ('lossy ', [None, 0, 1, 2, 3, 4, 5])):
            system = parse_system(f'policy p limit 5 tries 1 {lossy}go\nservice a\n  run 1 2\nend\nservice b\n  call a p\nend')
            paper = bound_paper(system, 'b', ('nobody', 'a'))
            self.assertEqual([row[2] for row in paper if row[0] == 'a'], wanted)
            self.same(check_bound(system, 'b', ('nobody', 'a'), paper), 0)

    def test_names_of_arguments(self):
        paper = bound_paper(measure=CALLS, system=SYSTEM, entry='b')
        self.assertEqual(paper, bound_paper(SYSTEM, 'b', CALLS))
        self.assertEqual(check_bound(paper=paper, measure=CALLS, entry='b', system=SYSTEM), 2)


class ErrorsTest(Case):
    def test_names_ahead_of_measures(self):
        for value in VALUES:
            if isinstance(value, str) and value in ('a', 'b'):
                continue
            self.raises(UnknownName, {'value': value}, bound_paper, SYSTEM, value, value)
            self.raises(UnknownName, {'value': value}, check_bound, SYSTEM, value, value, value)
            self.raises(InvalidMeasure, {'value': value}, bound_paper, SYSTEM, 'b', value)
            self.raises(InvalidMeasure, {'value': value}, check_bound, SYSTEM, 'b', value, value)

    def test_any_value_can_be_a_paper(self):
        paper = bound_paper(SYSTEM, 'b', CALLS)
        for measure in (CALLS, ('calls', 'a', 1), ('last',), ('nobody', 'a'), ('nobody', 'b', 2)):
            for value in VALUES:
                for wrong in (value,) + tuples_around(value) + ((value,) * 6, ((value,) * 6,)):
                    self.assertIsNone(check_bound(SYSTEM, 'b', measure, wrong))
                for place in range(6):
                    wrong = paper[0][:place] + (value,) + paper[0][place + 1:]
                    told = check_bound(SYSTEM, 'b', measure, (wrong, paper[1]))
                    if measure == CALLS and place in (1, 2) and value is None:
                        self.assertEqual(told, 2)
                    elif measure == CALLS and place in (4,) and isinstance(value, tuple) and value == ():
                        self.assertEqual(told, 2)
                    elif measure == CALLS and place == 0 and isinstance(value, str) and value == 'a':
                        self.assertEqual(told, 2)
                    else:
                        self.assertIsNone(told, (measure, place, type(value)))

    def test_other_kinds_within_rows(self):
        a, b = bound_paper(SYSTEM, 'b', CALLS)
        for wrong in (((1, True),), ((True, 1),), [(1, 1)], ((1, 1, 1),), ((1,),), ([1, 1],), ((1, '1'),), ((-1, 0),),
                      ((1, None),), ((1, (1,)),), ((None, 1),), (Awkward(),), ((1, Awkward()),), ((Awkward(), 1),),
                      ((2, 1), (1, 1)), ((1, 1), (1, 1)), ((1, 1), (1, 2)), {1: 1}, 'ab'):
            for column in (3, 4, 5):
                told = b[:column] + (wrong,) + b[column + 1:]
                self.assertIsNone(check_bound(SYSTEM, 'b', CALLS, (a, told)), wrong)
        for wrong in (b[:5], b + (1,), list(b), (True,) + b[1:], b[:1] + (True,) + b[2:], b[:1] + (-1,) + b[2:],
                      b[:2] + (0,) + b[3:], b[:2] + (2,) + b[3:]):
            self.assertIsNone(check_bound(SYSTEM, 'b', CALLS, (a, wrong)))
            self.assertIsNone(check_bound(SYSTEM, 'b', CALLS, (a, b, wrong)))

    def test_ticks_ascend(self):
        a, b = bound_paper(SYSTEM, 'b', CALLS)
        for column in (3, 5):
            told = b[column]
            for place in range(len(told)):
                twice = told[:place] + told[place:place + 1] + told[place:]
                self.assertIsNone(check_bound(SYSTEM, 'b', CALLS, (a, b[:column] + (twice,) + b[column + 1:])))
                if place:
                    turned = told[:place - 1] + (told[place], told[place - 1]) + told[place + 1:]
                    self.assertIsNone(check_bound(SYSTEM, 'b', CALLS, (a, b[:column] + (turned,) + b[column + 1:])))

    def test_other_tuples(self):
        measure = ('calls', 'a', 1)
        paper = bound_paper(SYSTEM, 'b', measure)
        self.same(check_bound(SYSTEM, 'b', measure, paper), (1, 2))
        a, b = paper
        self.assertEqual(b[3], ((1, (1, 1)), (2, (None, 1)), (3, (None, 2))))
        for wrong in ((1,), (1, 1, 1), (None, None), (1, None), 1, [1, 1], (True, 1), (1, True), ('1', 1), (), (1, (1,))):
            self.assertIsNone(check_bound(SYSTEM, 'b', measure, (a, b[:3] + (((1, wrong),) + b[3][1:],) + b[4:])))
        for right in ((1, 1), (1, 7), (2, 2), (10 ** 29, 10 ** 29)):
            told = check_bound(SYSTEM, 'b', measure, (a, b[:3] + (((1, right),) + b[3][1:],) + b[4:]))
            self.assertEqual(told, (right[0], max(right[1], 2)))
        self.assertIsNone(check_bound(SYSTEM, 'b', measure, (a, b[:3] + (((1, (None, 1)),) + b[3][1:],) + b[4:])))
        self.assertIsNone(check_bound(SYSTEM, 'b', measure, (a, b[:3] + (((1, (0, 1)),) + b[3][1:],) + b[4:])))


class DrawnTest(Case):
    def check(self, system, entry, measure, number, rng):
        paper = bound_paper(system, entry, measure)
        self.assertIsInstance(paper, tuple)
        self.same(check_bound(system, entry, measure, paper), number)
        mixed = list(paper)
        rng.shuffle(mixed)
        self.same(check_bound(system, entry, measure, tuple(mixed)), number)
        self.assertEqual(paper, bound_paper(system, entry, measure))
        for row in paper:
            if measure[0] != 'nobody':
                self.assertIsNone(row[2])
        for place in range(len(paper)):
            self.assertIsNone(check_bound(system, entry, measure, paper[:place] + paper[place + 1:]))
            self.assertIsNone(check_bound(system, entry, measure, paper + (paper[place],)))
        for _ in range(12):
            self.check_changed(system, entry, measure, number, paper, rng)

    def check_changed(self, system, entry, measure, number, paper, rng):
        """one tick left out, a number less, a number greater, or a tick more."""
        place = rng.randrange(len(paper))
        column = rng.randint(3, 5)
        told = paper[place][column]
        if told:
            at = rng.randrange(len(told))
            tick, value = told[at]
            out = with_told(paper, place, column, told[:at] + told[at + 1:])
            self.assertIsNone(check_bound(system, entry, measure, out))
            low = with_told(paper, place, column, told[:at] + ((tick, less(value)),) + told[at + 1:])
            self.assertIsNone(check_bound(system, entry, measure, low))
            high = with_told(paper, place, column, told[:at] + ((tick, more(value)),) + told[at + 1:])
            shown = check_bound(system, entry, measure, high)
            self.assertTrue(shown is None or at_least(shown, number))
        later = told[-1][0] + rng.randint(1, 3) if told else rng.randint(0, 9)
        added = (0,) * (measure[2] + 1) if len(measure) == 3 else 0
        shown = check_bound(system, entry, measure, with_told(paper, place, column, told + ((later, added),)))
        self.assertTrue(shown is None or at_least(shown, number))
        if paper[place][0] == entry:
            self.assertIsNotNone(shown)

    def test_small_systems(self):
        for seed, system, entry, runs in small_systems(200, 210, 300):
            rng = random.Random(seed)
            for measure in measures_of(system, seed):
                with self.subTest((seed, entry, measure)):
                    number = greatest([run.measured(measure) for run in runs], measure)
                    self.check(system, entry, measure, number, rng)

    def test_greater_systems(self):
        """the papers of systems with longer runs hold for those with shorter ones."""
        text = ('policy p limit 3 tries 2 lossy {0}\npolicy q limit 2 tries 3 early 2 go\nservice a\n  run 1 {1}\n  risk\nend\n'
                'service b\n  call a p\n  both\n    want a q\n  beside\n    run 0 {1}\n  end\nend\nservice c\n  call b q\nend')
        for ending in ('go', 'deadline', 'stop 2'):
            less_long, longer = [parse_system(text.format(ending, most)) for most in (3, 5)]
            for measure in measures_of(less_long):
                paper = bound_paper(longer, 'c', measure)
                shown = check_bound(longer, 'c', measure, paper)
                self.assertEqual(shown, Counts(longer, measure).greatest('c'))
                told = check_bound(less_long, 'c', measure, paper)
                self.assertEqual(told, shown)
                self.assertTrue(at_least(told, Counts(less_long, measure).greatest('c')))

    def test_more_rows_than_needed(self):
        """rows of other services, deadlines and ticks until unwanted can stand beside; each must be right."""
        for seed in range(20):
            system = some_system(seed, 3)
            for measure in (('calls', 'a'), ('nobody', 'a'), ('last',), ('work', 'b', 1)):
                paper = ()
                for entry in system:
                    paper += tuple(row for row in bound_paper(system, entry, measure) if row not in paper)
                for entry in system:
                    self.assertEqual(check_bound(system, entry, measure, paper), Counts(system, measure).greatest(entry))

    def test_rows_for_ticks_left_are_those_of_the_table(self):
        system = parse_system('policy p limit 5 tries 2 pauses 1 deadline\nservice a\n  run 1 9\nend\n'
                              'service b\n  call a p\n  run 0 3\n  call a p\nend\nservice c\n  call b p\nend')
        for measure in (('calls', 'a'), ('last',), ('work', 'a', 2)):
            counts = Counts(system, measure)
            paper = bound_paper(system, 'c', measure)
            self.assertEqual(sorted(row[:3] for row in paper if row[0] == 'b'), [('b', 5, None)])
            self.assertEqual(sorted(row[1] for row in paper if row[0] == 'a'), [0, 1, 2, 3, 4, 5])
            for name, left, _, answers, fails, stops in paper:
                rows = counts.table(name)(left)
                self.assertEqual([dict(row) for row in (answers, fails, stops)], [rows.answers, rows.fails, rows.stops])
                self.assertEqual([list(dict(row)) for row in (answers, fails, stops)],
                                 [sorted(rows.answers), sorted(rows.fails), sorted(rows.stops)])

    def test_great_ticks_and_numbers(self):
        a, b = bound_paper(SYSTEM, 'b', CALLS)
        far = b[:3] + (b[3] + ((10 ** 29, 10 ** 28),),) + b[4:]
        self.assertEqual(check_bound(SYSTEM, 'b', CALLS, (a, far)), 10 ** 28)
        rest = ('a', 10 ** 29) + a[2:]
        self.assertEqual(check_bound(SYSTEM, 'b', CALLS, (a, rest, b)), 2)
        below = tuple(row[:3] + tuple(tuple((tick, -number) for tick, number in told) for told in row[3:]) for row in (a, b))
        self.assertIsNone(check_bound(SYSTEM, 'b', CALLS, below))


if __name__ == '__main__':
    unittest.main()
