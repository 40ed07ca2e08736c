import itertools
import random
import unittest

from brute import small_systems
from helpers import VALUES, Awkward, Case
from mostcalls.changes import change_paper, changed_system, check_change, least_change
from mostcalls.counts import Counts
from mostcalls.errors import InvalidOffer, InvalidStep, InvalidWish, TooLong
from mostcalls.machine import play
from mostcalls.patterns import Pattern
from mostcalls.policies import Policy
from mostcalls.systems import System
from mostcalls.times import answer_times
from samples import million_system, some_system


def some_offers(rng, system, most=5, short=True):
    offers = []
    for _ in range(rng.randint(0, most)):
        field = rng.choice(('limit', 'tries', 'ending'))
        value = {'limit': rng.randint(1, 6 if short else 20), 'tries': rng.randint(1, 3),
                 'ending': rng.choice((('go',), ('deadline',), ('stop', 0), ('stop', rng.randint(0, 20))))}[field]
        offers.append((rng.choice(system.policies()), field, value, rng.choice((1, 2, 3, rng.randint(1, 99)))))
    return offers


def some_wishes(rng, system, most=3):
    wishes = []
    for _ in range(rng.randint(0, most)):
        kind = rng.choice(('calls', 'work', 'nobody', 'last', 'answer'))
        measure = (kind,) if kind in ('last', 'answer') else (kind, rng.choice(system.services()))
        wishes.append((measure, rng.choice(system.services()), rng.choice((0, 1, 2, 3, 5, 8, 12))))
    return wishes


def some_case(seed, most=5):
    """a system with offers and wishes; often the wishes are such that they hold with some choice only."""
    rng = random.Random(seed)
    system = some_system(seed, 3)
    offers = some_offers(rng, system, most)
    if rng.random() < 0.2:
        return rng, system, offers, some_wishes(rng, system)
    while len(offers) < 2:
        offers = some_offers(rng, system, most)
    wishes = []
    try:
        changed = slow_system(system, offers, rng.choice(slow_choices(offers))[1])
    except TooLong:
        return rng, system, offers, some_wishes(rng, system)
    for _ in range(rng.randint(1, 3)):
        # the one of some measures that differs most
        rows = []
        for _ in range(12):
            kind = rng.choice(('calls', 'work', 'nobody', 'last', 'answer'))
            measure = (kind,) if kind in ('last', 'answer') else (kind, rng.choice(system.services()))
            entry = rng.choice(system.services())
            one, other = number(system, measure, entry), number(changed, measure, entry)
            rows.append(((one or 0) - (other or 0), rng.random(), (measure, entry, other or 0)))
        wishes.append(max(rows)[2])
    return rng, system, offers, wishes


def number(system, measure, entry):
    """the greatest number of a measure of wishes, or None."""
    if measure == ('answer',):
        ticks = answer_times(system, entry)
        return None if ticks is None else ticks[1]
    return Counts(system, measure).greatest(entry)


def shown(value):
    """what tells any values apart, also by their kinds."""
    if type(value) is tuple:
        return tuple(shown(item) for item in value)
    return (type(value).__name__, value if type(value) in (int, bool, str) else id(value))


def is_one_of(value, others):
    """equal to one of them, and of its kind."""
    return any(shown(value) == shown(other) for other in others)


def slow_choices(offers):
    """all choices in order, from all sets of offers."""
    found = []
    for length in range(len(offers) + 1):
        for choice in itertools.combinations(range(len(offers)), length):
            if len({offers[index][:2] for index in choice}) == length:
                found.append((sum(offers[index][3] for index in choice), length, choice))
    return [(cost, choice) for cost, _, choice in sorted(found)]


def slow_policy(policy, offers):
    """the policy with these offers for it, field by field by the words of point 17."""
    limit, tries, ending, pauses, early = policy.limit, policy.tries, policy.ending, policy.pauses, policy.early
    for _, field, value, _ in offers:
        if field == 'limit':
            limit = value
        elif field == 'ending':
            ending = value
        else:
            tries = value
    if early is not None:
        pauses = None
        early = early if tries >= 2 else None
    else:
        pauses = tuple(pauses[number] if number < len(pauses) else 0 for number in range(tries - 1))
    return Policy(policy.name, limit, tries=tries, ending=ending, pauses=pauses, early=early, lossy=policy.lossy)


def slow_system(system, offers, choice):
    chosen = [offers[index] for index in choice]
    policies = [slow_policy(system.policy(name), [offer for offer in chosen if offer[0] == name])
                for name in system.policies()]
    return System(policies, [(name, system[name]) for name in system])


def holds(system, wish):
    measure, entry, most = wish
    told = number(system, measure, entry)
    return told is None or told <= most


def all_hold(system, offers, choice, wishes):
    try:
        changed = slow_system(system, offers, choice)
    except TooLong:
        return False
    return all(holds(changed, wish) for wish in wishes)


def slow_change(system, offers, wishes):
    for cost, choice in slow_choices(offers):
        if all_hold(system, offers, choice, wishes):
            return cost, choice
    return None


# Long enough that more of either policy alone is too long, where the other one is not made less at once.
TIGHT = System([Policy('p', 20, tries=3), Policy('q', 20, tries=3)],
               [('a', (('run', 0, 20),)), ('b', (('call', 'a', 'p'),) * 3 + (('call', 'a', 'q'),) * 3 + (('run', 0, 20),))])
EARLY = System([Policy('p', 5, tries=3, early=2), Policy('q', 4, tries=2, pauses=(3,))],
               [('a', (('run', 1, 9), ('risk',))), ('b', (('call', 'a', 'p'), ('call', 'a', 'q')))])


class ChangedSystemTest(Case):
    def test_drawn_offers(self):
        many = 0
        for seed in range(150):
            rng = random.Random(seed)
            system = some_system(seed, 3)
            offers = some_offers(rng, system, 8, False)
            for _, choice in slow_choices(offers)[:40]:
                try:
                    wanted = slow_system(system, offers, choice)
                except TooLong as error:
                    self.raises(TooLong, {'service': error.service}, changed_system, system, offers, choice)
                    continue
                self.assertEqual(changed_system(system, offers, choice), wanted)
                many += wanted != system
        self.assertGreater(many, 500)

    def test_no_offer_is_chosen(self):
        self.assertEqual(changed_system(EARLY, [], ()), EARLY)
        self.assertEqual(changed_system(EARLY, [('p', 'limit', 1, 1)], ()), EARLY)

    def test_pauses_and_early_behind_other_tries(self):
        offers = [('p', 'tries', 1, 1), ('p', 'tries', 2, 1), ('p', 'tries', 3, 1), ('q', 'tries', 1, 1),
                  ('q', 'tries', 2, 1), ('q', 'tries', 3, 1)]
        told = [changed_system(EARLY, offers, (index,)) for index in range(6)]
        early = [(system.policy('p').tries, system.policy('p').early, system.policy('p').pauses) for system in told[:3]]
        self.same(early, [(1, None, ()), (2, 2, ()), (3, 2, ())])
        pauses = [(system.policy('q').tries, system.policy('q').pauses) for system in told[3:]]
        self.same(pauses, [(1, ()), (2, (3,)), (3, (3, 0))])

    def test_other_fields_stay(self):
        policy = Policy('p', 7, tries=3, pauses=(1, 2), lossy=True, ending=('stop', 4))
        system = System([policy], [('a', ())])
        told = changed_system(system, [('p', 'tries', 2, 9)], (0,)).policy('p')
        self.assertEqual(told, policy.changed(tries=2, pauses=(1,)))
        told = changed_system(system, [('p', 'limit', 2, 9), ('p', 'ending', ('go',), 9)], (0, 1)).policy('p')
        self.assertEqual(told, policy.changed(limit=2, ending=('go',)))

    def test_all_at_once(self):
        offers = [('p', 'limit', 1, 1), ('q', 'limit', 20, 1), ('p', 'tries', 1, 1)]
        system = changed_system(TIGHT, [('q', 'limit', 1, 1)], (0,))
        longer = System([Policy('p', 20, tries=3), Policy('q', 12, tries=3)],
                        [('a', ()), ('b', (('call', 'a', 'p'),) * 4 + (('call', 'a', 'q'),) * 4)])
        self.raises(TooLong, {'service': 'b'}, changed_system, longer, offers, (1,))
        self.assertEqual(changed_system(longer, offers, (0, 1)).span('b'), 4 * 3 + 4 * 60)
        self.assertEqual(changed_system(longer, offers, (1, 2)).span('b'), 4 * 20 + 4 * 60)
        self.assertEqual(system.policy('q').limit, 1)

    def test_offers_that_are_none(self):
        right = ('p', 'limit', 3, 1)
        self.raises(InvalidOffer, {'number': None}, changed_system, EARLY, [right] * 9, None)
        changed_system(EARLY, [right] * 8, (7,))
        for value in VALUES + (right, (right,), {0: right}, iter([right])):
            if not isinstance(value, list):
                self.raises(InvalidOffer, {'number': None}, changed_system, EARLY, value, None)
        wrong = [('x', 'limit', 3, 1), ('p', 'pauses', (0,), 1), ('p', 'early', 3, 1), ('p', 'lossy', True, 1),
                 ('p', 'name', 'q', 1), ('p', 'limit', 0, 1), ('p', 'limit', 21, 1), ('p', 'limit', True, 1),
                 ('p', 'tries', 0, 1), ('p', 'tries', 4, 1), ('p', 'tries', True, 1), ('p', 'ending', 'go', 1),
                 ('p', 'ending', ('stop', 21), 1), ('p', 'ending', ('stop',), 1), ('p', 'ending', ['go'], 1),
                 ('p', 'limit', 3, 0), ('p', 'limit', 3, 100), ('p', 'limit', 3, True), ('p', 'limit', 3, '1'),
                 ('p', 'limit', 3), ('p', 'limit', 3, 1, 1), ['p', 'limit', 3, 1], ('a', 'limit', 3, 1)]
        for value in wrong + list(VALUES):
            self.raises(InvalidOffer, {'number': 1}, changed_system, EARLY, [right, value, value], None)
        for value in VALUES + (Awkward(),):
            for offer in ((value, 'limit', 3, 1), ('p', value, 3, 1), ('p', 'ending', value, 1), ('p', 'limit', 3, value)):
                if not is_one_of(value, (1, 3)):
                    self.raises(InvalidOffer, {'number': 0}, changed_system, EARLY, [offer], ())

    def test_values_that_are_no_choices(self):
        offers = [('p', 'limit', 3, 1), ('p', 'limit', 4, 1), ('q', 'limit', 4, 1), ('p', 'tries', 1, 1)]
        for choice in ((), (0,), (1, 2), (0, 2, 3), (3,)):
            changed_system(EARLY, offers, choice)
        wrong = ((0, 1), (1, 0), (2, 0), (0, 0), (4,), (-1,), (True,), (0, True), [0], (0, 1, 2), 0, '0', ('0',), ((0,),))
        for choice in wrong + tuple(value for value in VALUES if not (isinstance(value, tuple) and self.is_right(value))):
            self.raises(InvalidStep, {'value': choice}, changed_system, EARLY, offers, choice)
        self.raises(InvalidStep, {'value': (0,)}, changed_system, EARLY, [], (0,))

    def is_right(self, value):
        return all(type(index) is int for index in value) and value in ((), (0,), (1, 2))

    def test_errors_in_order(self):
        longer = System([Policy('p', 3)], [('a', ()), ('b', (('call', 'a', 'p'),) * 10)])
        offers = [('p', 'limit', 20, 1), ('p', 'tries', 3, 1)]
        self.raises(InvalidOffer, {'number': 2}, changed_system, longer, offers + [3], (5,))
        self.raises(InvalidStep, {'value': (5,)}, changed_system, longer, offers, (5,))
        self.raises(TooLong, {'service': 'b'}, changed_system, longer, offers, (0, 1))

    def test_named_arguments(self):
        self.assertEqual(changed_system(choice=(0,), offers=[('p', 'limit', 3, 1)], system=EARLY).policy('p').limit, 3)


class LeastChangeTest(Case):
    def test_beside_all_choices(self):
        found, none = 0, 0
        for seed in range(220):
            _, system, offers, wishes = some_case(seed)
            wanted = slow_change(system, offers, wishes)
            self.same(least_change(system, offers, wishes), wanted)
            none += wanted is None
            found += wanted is not None and wanted[0] > 0
        self.assertGreater(found, 20)
        self.assertGreater(none, 10)

    def test_beside_all_runs(self):
        """the numbers of the wishes are those that no run exceeds."""
        many = 0
        for seed, system, entry, runs in small_systems(0, 25, 200):
            for kind in ('calls', 'work', 'nobody', 'last', 'answer'):
                measure = (kind,) if kind in ('last', 'answer') else (kind, 'a')
                if kind == 'answer':
                    most = max([run.end for run in runs if run.how == 'answered'], default=None)
                else:
                    most = max(run.measured(measure) for run in runs)
                if most is None:
                    self.same(least_change(system, [], [(measure, entry, 0)]), (0, ()))
                    continue
                self.same(least_change(system, [], [(measure, entry, most)]), (0, ()))
                if most > 0:
                    self.assertIsNone(least_change(system, [], [(measure, entry, most - 1)]))
                    many += 1
        self.assertGreater(many, 30)

    def test_an_answer_that_never_comes(self):
        system = System([Policy('p', 2)], [('a', (('run', 3, 4),)), ('b', (('call', 'a', 'p'),))])
        self.same(least_change(system, [], [(('answer',), 'b', 0)]), (0, ()))
        offers = [('p', 'limit', 4, 5), ('p', 'limit', 3, 1)]
        self.same(least_change(system, offers, [(('answer',), 'b', 0), (('calls', 'a'), 'b', 0)]), None)

    def test_the_order_of_choices(self):
        """by cost, then by length, then as tuples."""
        system = System([Policy('p', 9), Policy('q', 9)],
                        [('a', (('run', 0, 20),)), ('b', (('want', 'a', 'p'), ('want', 'a', 'q')))])
        wish = [(('work', 'a'), 'b', 39)]
        stop = ('stop', 0)
        for costs, wanted in (((3, 2, 2), (2, (1,))), ((2, 2, 2), (2, (0,))), ((9, 9, 8), (8, (2,)))):
            offers = [('p', 'ending', stop, costs[0]), ('q', 'ending', stop, costs[1]), ('p', 'ending', ('stop', 1), costs[2])]
            self.same(least_change(system, offers, wish), wanted)
        # one that costs as much as two others goes first, as it is shorter
        offers = [('p', 'ending', stop, 1), ('p', 'limit', 9, 1), ('q', 'ending', stop, 2)]
        rows = change_paper(system, offers, [(('work', 'a'), 'b', 18)])[1]
        self.same([row[0] for row in rows], [(), (0,), (1,), (2,), (0, 1)])

    def test_systems_that_are_too_long_do_not_hold(self):
        system = System([Policy('p', 1), Policy('q', 2)],
                        [('a', ()), ('b', (('run', 0, 5), ('call', 'a', 'p'), ('call', 'a', 'q'))), ('c', (('call', 'b', 'p'),) * 9)])
        offers = [('p', 'limit', 20, 1), ('p', 'tries', 3, 1), ('q', 'limit', 1, 9)]
        wishes = [(('last',), 'b', 9)]
        self.same(least_change(system, offers, wishes), (0, ()))
        self.same(least_change(system, offers, [(('calls', 'b'), 'c', 99), (('last',), 'c', 0)]), None)
        paper = change_paper(system.with_policy(system.policy('p').changed(limit=12)), offers, [(('work', 'b'), 'c', 9)])
        self.assertIsNone(paper)

    def test_wishes_that_are_none(self):
        right = (('calls', 'a'), 'b', 3)
        for value in VALUES + (right, (right,), {0: right}):
            if not isinstance(value, list):
                for call in (least_change, change_paper):
                    self.raises(InvalidWish, {'number': None}, call, EARLY, [], value)
                self.raises(InvalidWish, {'number': None}, check_change, EARLY, [], value, None)
        wrong = [(('calls', 'a', 2), 'b', 3), (('calls', 'x'), 'b', 3), (('calls',), 'b', 3), (('answer', 'a'), 'b', 3),
                 (('answer',), 'x', 3), (('fail',), 'b', 3), ('answer', 'b', 3), (['answer'], 'b', 3),
                 (('answer',), 'b', -1), (('answer',), 'b', True), (('answer',), 'b', None), (('answer',), 'b', '3'),
                 (('answer',), 'b'), (('answer',), 'b', 3, 3), [('answer',), 'b', 3], (('last', 'a'), 'b', 3),
                 (('nobody', 'a', 0), 'b', 3), (('answer',), 'p', 3)]
        for value in wrong + list(VALUES):
            for call in (least_change, change_paper):
                self.raises(InvalidWish, {'number': 1}, call, EARLY, [], [right, value, value])
            self.raises(InvalidWish, {'number': 1}, check_change, EARLY, [], [right, value], None)
        for value in VALUES:
            for wish in ((value, 'b', 3), (right[0], value, 3), ((value,), 'b', 3), (('calls', value), 'b', 3)):
                if not is_one_of(value, ('a',)):
                    self.raises(InvalidWish, {'number': 0}, least_change, EARLY, [], [wish])

    def test_offers_are_looked_at_first(self):
        for call in (least_change, change_paper):
            self.raises(InvalidOffer, {'number': 0}, call, EARLY, [3], None)
        self.raises(InvalidOffer, {'number': None}, check_change, EARLY, None, None, None)

    def test_nothing_is_wished(self):
        self.same(least_change(TIGHT, [('p', 'limit', 3, 1)], []), (0, ()))
        self.same(change_paper(TIGHT, [('p', 'limit', 3, 1)], []), ((), ()))

    def test_eight_offers_in_time(self):
        system = some_system(6, 5, 5, False)
        names = system.policies()
        offers = [(names[0], 'limit', 3, 4), (names[0], 'tries', 3, 2), (names[0], 'ending', ('deadline',), 3),
                  (names[0], 'ending', ('stop', 2), 1)]
        offers += [(names[-1], 'limit', 5, 4), (names[-1], 'tries', 2, 2), (names[-1], 'ending', ('go',), 3)][:4 if len(names) > 1 else 0]
        entry = system.services()[-1]
        wishes = [((kind, name), entry, 0) for kind in ('calls', 'work', 'nobody') for name in system]
        wanted = slow_change(system, offers, wishes)
        self.same(least_change(system, offers, wishes), wanted)

    def test_requests_that_are_too_large_for_patterns(self):
        system = million_system()
        number = Counts(system, ('calls', 'a')).greatest('f')
        self.assertGreater(number, 10 ** 6)
        offers = [('slow', 'tries', 2, 3), ('fast', 'tries', 1, 4), ('slow', 'limit', 9, 1)]
        wanted = slow_change(system, offers, [(('calls', 'a'), 'f', number // 9)])
        self.same(least_change(system, offers, [(('calls', 'a'), 'f', number // 9)]), wanted)
        self.assertGreater(wanted[0], 1)
        self.assertIsNone(change_paper(system, offers, [(('calls', 'a'), 'f', 10)]))

    def test_named_arguments(self):
        offers, wishes = [('p', 'tries', 1, 4)], [(('calls', 'a'), 'b', 3)]
        self.same(least_change(wishes=wishes, offers=offers, system=EARLY), (4, (0,)))
        paper = change_paper(wishes=wishes, offers=offers, system=EARLY)
        self.same(check_change(paper=paper, wishes=wishes, offers=offers, system=EARLY), (0,))


class PaperTest(Case):
    def some_papers(self, seeds):
        for seed in seeds:
            rng, system, offers, wishes = some_case(seed)
            yield rng, system, offers, wishes, change_paper(system, offers, wishes)

    def test_papers_are_accepted(self):
        many = 0
        for _, system, offers, wishes, paper in self.some_papers(range(200)):
            wanted = slow_change(system, offers, wishes)
            if wanted is None:
                self.assertIsNone(paper)
                continue
            choice, rows = paper
            self.same(choice, wanted[1])
            self.same(check_change(system, offers, wishes, paper), choice)
            ahead = [other for _, other in slow_choices(offers)]
            self.same([row[0] for row in rows], ahead[:ahead.index(choice)])
            for other, index, pattern in rows:
                many += 1
                try:
                    changed = slow_system(system, offers, other)
                except TooLong:
                    self.same((index, pattern), (None, None))
                    continue
                measure, entry, most = wishes[index]
                self.assertIsInstance(pattern, Pattern)
                self.assertEqual(pattern.entry, entry)
                run = play(changed, pattern)
                if measure == ('answer',):
                    self.assertEqual(run.how, 'answered')
                    self.assertGreater(run.end, most)
                else:
                    self.assertGreater(run.measured(measure), most)
        self.assertGreater(many, 40)

    def test_changed_papers(self):
        accepted = 0
        for rng, system, offers, wishes, paper in self.some_papers(range(220)):
            if paper is None or len(paper[1]) == 0:
                continue
            choice, rows = paper
            at, to = rng.randrange(len(rows)), rng.randrange(len(rows))
            row = rows[at]
            swapped = list(rows)
            swapped[at], swapped[to] = swapped[to], swapped[at]
            wrong = [(choice, rows[:at] + rows[at + 1:]), (choice, rows[:at] + (row,) + rows[at:]), (choice, list(rows)),
                     [choice, rows], (list(choice), rows), (choice,), (choice, rows, rows), (choice, None), (None, rows),
                     (choice, rows + (row,)), (rows[0][0], rows), (choice, ()), (choice + (9,), rows)]
            if at != to:
                wrong.append((choice, tuple(swapped)))
            for value in VALUES:
                # the index of another wish can be right, too
                indexes = [] if is_one_of(value, range(len(wishes))) else [row[:1] + (value,) + row[2:]]
                wrong += [(choice, rows[:at] + (other,) + rows[at + 1:])
                          for other in [value, (value,) + row[1:], row[:2] + (value,)] + indexes
                          if shown(other) != shown(row)]
            if row[1] is not None:
                other = Pattern(row[2].entry, {})
                wrong.append((choice, rows[:at] + ((row[0], None, None),) + rows[at + 1:]))
                wrong.append((choice, rows[:at] + ((row[0], row[1], Pattern('x', {})),) + rows[at + 1:]))
                impossible = Pattern(row[2].entry, {path: 99 for path, _ in row[2]})
                if len(impossible) and any(path in dict(row[2]) for path, _ in self.met(system, offers, row)):
                    wrong.append((choice, rows[:at] + ((row[0], row[1], impossible),) + rows[at + 1:]))
                least = (choice, rows[:at] + ((row[0], row[1], other),) + rows[at + 1:])
                shows = not self.is_more(slow_system(system, offers, row[0]), other, wishes[row[1]])
                self.same(check_change(system, offers, wishes, least), None if shows else choice)
                accepted += not shows
            else:
                wrong.append((choice, rows[:at] + ((row[0], 0, Pattern('a', {})),) + rows[at + 1:]))
            for value in wrong:
                self.assertIsNone(check_change(system, offers, wishes, value), value)
        self.assertGreater(accepted, 0)

    def met(self, system, offers, row):
        return play(slow_system(system, offers, row[0]), row[2]).met()

    def is_more(self, system, pattern, wish):
        measure, _, most = wish
        run = play(system, pattern)
        if measure == ('answer',):
            return run.how == 'answered' and run.end > most
        return run.measured(measure) > most

    def test_a_greater_choice_that_holds_too(self):
        """a paper of another choice with which all wishes hold is right only if no choice ahead of it holds."""
        offers, wishes = [('p', 'tries', 1, 4), ('q', 'tries', 1, 5)], [(('calls', 'a'), 'b', 3)]
        choice, rows = change_paper(EARLY, offers, wishes)
        self.same(choice, (0,))
        self.same(len(rows), 1)
        for index in (0, None):
            for pattern in (rows[0][2], None):
                self.assertIsNone(check_change(EARLY, offers, wishes, ((1,), rows + (((0,), index, pattern),))))
                self.assertIsNone(check_change(EARLY, offers, wishes, ((0, 1), rows + (((0,), index, pattern),))))

    def test_a_choice_that_does_not_hold(self):
        wishes = [(('calls', 'a'), 'b', 3)]
        self.assertIsNone(check_change(EARLY, [], wishes, ((), ())))
        self.same(check_change(EARLY, [], [(('calls', 'a'), 'b', 5)], ((), ())), ())

    def test_any_wish_that_is_exceeded(self):
        """a row can show another wish than the first one that does not hold."""
        offers = [('p', 'tries', 1, 4), ('q', 'tries', 1, 5)]
        wishes = [(('calls', 'a'), 'b', 2), (('work', 'a'), 'b', 18)]
        choice, rows = change_paper(EARLY, offers, wishes)
        self.same(choice, (0, 1))
        pattern = Counts(EARLY, ('work', 'a')).best('b')
        other = (choice, (((), 1, pattern),) + rows[1:])
        self.same(check_change(EARLY, offers, wishes, other), choice)
        for index in (2, -1, True, None, '1'):
            self.assertIsNone(check_change(EARLY, offers, wishes, (choice, (((), index, pattern),) + rows[1:])))

    def test_any_value(self):
        for value in VALUES + ((Awkward(), ()), ((), Awkward()), ((), (Awkward(),))):
            self.assertIsNone(check_change(EARLY, [('p', 'tries', 1, 4)], [(('calls', 'a'), 'b', 3)], value))


class WholeTest(Case):
    def test_cheaper_offers_and_wider_wishes(self):
        many = 0
        for seed in range(150):
            rng, system, offers, wishes = some_case(seed)
            before = least_change(system, offers, wishes)
            cheaper = [offer[:3] + (rng.randint(1, offer[3]),) for offer in offers]
            wider = [wish[:2] + (wish[2] + rng.randint(0, 3),) for wish in wishes]
            for after in (least_change(system, cheaper, wishes), least_change(system, offers, wider),
                          least_change(system, cheaper, wider), least_change(system, offers, wishes[1:])):
                if before is not None:
                    self.assertLessEqual(after[0], before[0])
                    many += after[0] < before[0]
        self.assertGreater(many, 20)

    def test_other_names(self):
        from test_whole import renamed
        for seed in range(60):
            _, system, offers, wishes = some_case(seed)
            changed, names = renamed(system)
            others = [('q' + offer[0],) + offer[1:] for offer in offers]
            told = [((measure[0],) + tuple(names[word] for word in measure[1:]), names[entry], most)
                    for measure, entry, most in wishes]
            self.same(least_change(changed, others, told), least_change(system, offers, wishes))

    def test_another_order(self):
        """policies in another order, and services that are not called by one another."""
        for seed in range(60):
            _, system, offers, wishes = some_case(seed)
            policies = [system.policy(name) for name in system.policies()][::-1]
            rows = [('more', (('run', 0, 20),))] + [(name, system[name]) for name in system]
            other = System(policies, rows)
            self.same(least_change(other, offers, wishes), least_change(system, offers, wishes))

    def test_arguments_stay(self):
        offers, wishes = [('p', 'tries', 1, 4)], [(('calls', 'a'), 'b', 3)]
        change_paper(EARLY, offers, wishes)
        self.assertEqual((offers, wishes), ([('p', 'tries', 1, 4)], [(('calls', 'a'), 'b', 3)]))


if __name__ == '__main__':
    unittest.main()
