import random
import unittest

from brute import small_systems
from helpers import VALUES, Awkward, Case
from mostcalls.counts import Counts
from mostcalls.dossiers import check_dossier, dossier
from mostcalls.errors import UnknownName
from mostcalls.machine import play
from mostcalls.papers import check_bound
from mostcalls.patterns import Pattern, all_patterns
from mostcalls.policies import Policy
from mostcalls.systems import System
from mostcalls.texts import parse_system
from mostcalls.times import answer_times
from mostcalls.values import is_value
from samples import some_system

SYSTEM = parse_system('policy p limit 2 tries 2 lossy stop 1\nservice a\n  run 1 9\n  risk\nend\nservice b\n  call a p\nend')


def measures(system):
    return [(kind, name) for kind in ('calls', 'work', 'nobody') for name in system] + [('last',)]


def numbers(system, entry):
    """what check_dossier tells of a right dossier."""
    found = {measure: Counts(system, measure).greatest(entry) for measure in measures(system)}
    found[('answer',)] = answer_times(system, entry)
    return found


def places(value, path=()):
    """the places of all values in a nested tuple, outermost first."""
    yield path
    if isinstance(value, tuple):
        for index, inner in enumerate(value):
            yield from places(inner, path + (index,))


def at(value, path):
    for index in path:
        value = value[index]
    return value


def put(value, path, other):
    """the value with another one at a place."""
    if not path:
        return other
    return value[:path[0]] + (put(value[path[0]], path[1:], other),) + value[path[0] + 1:]


def changed(rng, value):
    """the value with one change somewhere."""
    every = list(places(value))
    path = rng.choice(every)
    # Places that are not deep in papers are few; they are taken more often.
    if rng.random() < 0.5:
        path = rng.choice([path for path in every if len(path) < 5])
    inner = at(value, path)
    kind = rng.randrange(7)
    if type(inner) is int and kind < 4:
        return put(value, path, inner + rng.choice((-1, 1, 1, 5)))
    if type(inner) is tuple and inner and kind < 6:
        place = rng.randrange(len(inner))
        if kind < 2:
            return put(value, path, inner[:place] + inner[place + 1:])
        if kind == 2:
            return put(value, path, inner[:place] + (inner[place],) + inner[place:])
        if kind == 3:
            return put(value, path, inner[::-1])
        return put(value, path, inner[:place] + (at(value, rng.choice(every)),) + inner[place:])
    return put(value, path, rng.choice((None, 0, 1, True, 'a', 'calls', (), (0,), inner, 2, at(value, rng.choice(every)))))


class DossierTest(Case):
    def right(self, system, entry, value):
        told = check_dossier(system, entry, value)
        wanted = numbers(system, entry)
        self.same(list(told.items()), list(wanted.items()))

    def test_drawn_systems(self):
        for seed in range(40):
            system = some_system(seed, 3 + seed % 2)
            for entry in system:
                value = dossier(system, entry)
                self.right(system, entry, value)
                self.assertTrue(is_value(value))
                self.assertEqual(dossier(system, entry), value)

    def test_what_is_in_it(self):
        for seed in range(40, 60):
            system = some_system(seed, 3)
            for entry in system:
                name, cases, times = dossier(system, entry)
                self.same(name, entry)
                self.same([case[0] for case in cases], measures(system))
                for measure, number, choices, paper in cases:
                    run = play(system, Pattern(entry, dict(choices)))
                    self.same(list(choices), sorted(dict(choices).items()))
                    self.same(run.measured(measure), number)
                    self.same(Counts(system, measure).greatest(entry), number)
                    self.same(check_bound(system, entry, measure, paper), number)
                ticks = answer_times(system, entry)
                if ticks is None:
                    self.assertIsNone(times)
                    continue
                self.same(tuple(row[0] for row in times), ticks)
                for tick, choices in times:
                    run = play(system, Pattern(entry, dict(choices)))
                    self.same((run.how, run.end), ('answered', tick))

    def test_beside_all_runs(self):
        many = 0
        for seed, system, entry, runs in small_systems(500, 530, 300):
            told = check_dossier(system, entry, dossier(system, entry))
            for measure in measures(system):
                self.same(told[measure], max(run.measured(measure) for run in runs))
            ends = [run.end for run in runs if run.how == 'answered']
            self.same(told[('answer',)], (min(ends), max(ends)) if ends else None)
            many += len(runs)
        self.assertGreater(many, 500)

    def test_changed_dossiers(self):
        """None, or just the exact numbers."""
        wrong, right = 0, 0
        for seed in range(60):
            rng = random.Random(seed)
            system = some_system(seed, rng.choice((2, 3)))
            for entry in system:
                value = dossier(system, entry)
                wanted = numbers(system, entry)
                for _ in range(25):
                    other = changed(rng, value)
                    if rng.random() < 0.2:
                        other = changed(rng, other)
                    told = check_dossier(system, entry, other)
                    if told is None:
                        wrong += 1
                        self.assertNotEqual(repr(other), repr(value))
                    else:
                        right += 1
                        self.same(list(told.items()), list(wanted.items()))
        self.assertGreater(wrong, 1500)
        self.assertGreater(right, 20)

    def test_changed_numbers(self):
        for seed in range(20):
            system = some_system(seed, 3)
            value = dossier(system, 'c')
            for place in range(len(value[1])):
                for number in (value[1][place][1] + 1, value[1][place][1] - 1, None, bool(value[1][place][1]), str(value[1][place][1])):
                    self.assertIsNone(check_dossier(system, 'c', put(value, (1, place, 1), number)))

    def test_cases_in_another_order(self):
        value = dossier(SYSTEM, 'b')
        cases = value[1]
        for other in (cases[::-1], cases[1:], cases[:-1], cases + cases[-1:], cases[:1] + cases, cases[1:2] + cases[:1] + cases[2:], ()):
            self.assertIsNone(check_dossier(SYSTEM, 'b', (value[0], other, value[2])))
        for place in range(len(cases)):
            for to in range(len(cases)):
                if place != to:
                    self.assertIsNone(check_dossier(SYSTEM, 'b', put(value, (1, place), cases[to])))

    def test_papers_of_other_measures(self):
        value = dossier(SYSTEM, 'b')
        for place in range(len(value[1])):
            for to in range(len(value[1])):
                other = put(value, (1, place, 3), value[1][to][3])
                told = check_dossier(SYSTEM, 'b', other)
                shown = check_bound(SYSTEM, 'b', value[1][place][0], value[1][to][3])
                self.assertIs(told is None, shown != value[1][place][1])

    def test_choices(self):
        value = dossier(SYSTEM, 'b')
        choices = value[1][2][2]
        self.assertEqual(value[1][2][0], ('work', 'a'))
        self.assertGreater(len(choices), 1)
        met = play(SYSTEM, Pattern('b', dict(choices))).met()
        for other in (tuple(met), tuple(sorted(dict(met + [((5,), 3)]).items())), tuple(sorted(dict(met + [((0, 7, 0), 99)]).items())),
                      tuple(sorted(dict(met + [((10 ** 29, 4), 10 ** 29)]).items()))):
            self.right(SYSTEM, 'b', put(value, (1, 2, 2), other))
        for other in (choices[::-1], choices + choices[-1:], list(choices), dict(choices), choices[:1], (), None, choices[0],
                      tuple(list(row) for row in choices), tuple((path, choice, 0) for path, choice in choices),
                      tuple((list(path), choice) for path, choice in choices), tuple((path, 99) for path, choice in choices),
                      tuple((path, True) for path, choice in choices), (((), 0),) + choices, (((-1,), 0),) + choices,
                      choices + (((9,), -1),), choices + (((9,), None),), choices + ((('a',), 1),), choices + (((9, True), 1),),
                      choices + (((9,), 1), ((9,), 1)), choices + (((9,), 1), ((9,), 2)), choices + (((9, 1), 1), ((9,), 2)), choices + (Awkward(),)):
            self.assertIsNone(check_dossier(SYSTEM, 'b', put(value, (1, 2, 2), other)))

    def test_times(self):
        value = dossier(SYSTEM, 'b')
        least, longest = value[2]
        self.same((least[0], longest[0]), (1, 4))
        for other in (None, (), (least,), (longest, least), (least, least), (longest, longest), (least, longest, longest), [least, longest],
                      ((2,) + least[1:], longest), (least, (3,) + longest[1:]), (least, (True, longest[1])), ((True, least[1]), longest),
                      (least, (4, ())), ((1, longest[1]), longest), (least, (4,)), (least, (4, longest[1], 0)), (least, None), (1, 4),
                      (least, [4, longest[1]]), (least, (None, longest[1])), (least, (4, longest[1] + (((9,), 1), ((9,), 1))))):
            self.assertIsNone(check_dossier(SYSTEM, 'b', value[:2] + (other,)))
        self.right(SYSTEM, 'b', value[:2] + ((least, (4, longest[1] + (((9,), 1),))),))
        never = System([Policy('p', 2)], [('a', (('run', 3, 4),)), ('b', (('call', 'a', 'p'),))])
        value = dossier(never, 'b')
        self.assertIsNone(value[2])
        self.right(never, 'b', value)
        for other in ((), ((2, ()), (2, ())), 0, False, 'never', ((0, ()), (0, ()))):
            self.assertIsNone(check_dossier(never, 'b', value[:2] + (other,)))

    def test_a_paper_that_tells_more_ticks(self):
        """a paper of the last tick can be right and tell answers that there are not; the dossier is not right then."""
        value = dossier(SYSTEM, 'b')
        paper = value[1][-1][3]
        place = [index for index, row in enumerate(paper) if row[:3] == ('b', None, None)][0]
        answers = paper[place][3]
        ticks = [tick for tick, _ in answers]
        for row in (answers + ((ticks[-1] + 1, 5),), ((0, 1),) + answers):
            more = put(paper, (place, 3), row)
            self.same(check_bound(SYSTEM, 'b', ('last',), more), value[1][-1][1])
            self.assertIsNone(check_dossier(SYSTEM, 'b', put(value, (1, len(value[1]) - 1, 3), more)))
        # One between the least and the longest does no harm.
        self.right(SYSTEM, 'b', put(value, (1, len(value[1]) - 1, 3), put(paper, (place, 3), answers)))

    def test_of_another_entry_or_system(self):
        for seed in range(30):
            system = some_system(seed, 3)
            value = dossier(system, 'b')
            for entry in ('a', 'c'):
                self.assertIsNone(check_dossier(system, entry, value))
            for word in ('a', 'c', 'x', None, ('b',), 1):
                self.assertIsNone(check_dossier(system, 'b', (word,) + value[1:]))
            other = some_system(seed + 100, 3)
            told = check_dossier(other, 'b', value)
            if told is not None:
                self.same(list(told.items()), list(numbers(other, 'b').items()))
            more = System([system.policy(name) for name in system.policies()], [(name, system[name]) for name in system] + [('more', ())])
            self.assertIsNone(check_dossier(more, 'b', value))

    def test_any_value(self):
        value = dossier(SYSTEM, 'b')
        for other in VALUES + (list(value), value[:2], value + (None,), value[:1] + (list(value[1]),) + value[2:]):
            self.assertIsNone(check_dossier(SYSTEM, 'b', other))
        for other in VALUES:
            for path in ((0,), (1,), (1, 0), (1, 0, 0), (1, 0, 0, 0), (1, 0, 1), (1, 0, 2), (1, 0, 3), (1, 6, 3, 0), (1, 6, 3, 0, 0), (2, 0),
                         (2, 0, 0), (2, 0, 1), (1, 2, 2, 0), (1, 2, 2, 0, 0), (1, 2, 2, 0, 1), (1, 6, 3, 0, 3)):
                told = check_dossier(SYSTEM, 'b', put(value, path, other))
                if told is not None:
                    self.same(list(told.items()), list(numbers(SYSTEM, 'b').items()))

    def test_the_entry_is_looked_at_first(self):
        for value in VALUES + ('p', 'x'):
            if not (isinstance(value, str) and value == 'a'):
                self.raises(UnknownName, {'value': value}, dossier, SYSTEM, value)
                self.raises(UnknownName, {'value': value}, check_dossier, SYSTEM, value, None)

    def test_by_hand(self):
        told = check_dossier(SYSTEM, 'b', dossier(SYSTEM, 'b'))
        self.same(list(told.items()), [(('calls', 'a'), 2), (('calls', 'b'), 0), (('work', 'a'), 6), (('work', 'b'), 0),
                                       (('nobody', 'a'), 2), (('nobody', 'b'), 0), (('last',), 5), (('answer',), (1, 4))])

    def test_longer_systems(self):
        for seed in range(6):
            system = some_system(seed, 5, 5, False)
            entry = system.services()[-1]
            value = dossier(system, entry)
            self.right(system, entry, value)

    def test_named_arguments(self):
        value = dossier(entry='b', system=SYSTEM)
        self.assertIsNotNone(check_dossier(value=value, entry='b', system=SYSTEM))
        self.assertEqual(len(list(all_patterns(entry='b', system=SYSTEM))), len(list(all_patterns(SYSTEM, 'b'))))


if __name__ == '__main__':
    unittest.main()
