import random
import unittest

from helpers import VALUES, Awkward, Case
from mostcalls.errors import InvalidLine, InvalidNumber, InvalidState, LimitExceeded
from mostcalls.lines import Line, fate, feeds, greatest_gap, least_burst, least_outage
from slowlines import SlowLine

EXAMPLE = Line(((1, 2, 4),), gap=2, limit=3)
RIGHT = {'stations': ((1, 2, 4), (2, 3, 0)), 'gap': 2, 'limit': 9, 'tries': 3, 'pause': 4, 'ending': 'stop'}
FIELDS = ('stations', 'gap', 'limit', 'tries', 'pause', 'ending')


def drawn_line(rng, most_ticks=4):
    stations = tuple((rng.randint(1, 3), rng.randint(1, most_ticks), rng.randint(0, 4)) for _ in range(rng.randint(1, 3)))
    return Line(stations, gap=rng.randint(1, 5), limit=rng.randint(1, 12), tries=rng.randint(1, 3),
                pause=rng.randint(1, 4), ending=rng.choice(('go', 'stop')))


def made_up_state(rng, line):
    """a state of the right form that need not come about."""
    requests, running = [], []
    for number in range(rng.randint(0, 6)):
        left = rng.randint(0, line.tries - 1)
        if left and rng.random() < 0.4:
            requests.append((left, rng.randint(1, line.pause), None))
        else:
            requests.append((left, None, rng.randint(1, line.limit)))
            running.append(number)
    room = sum(handlers + places for handlers, _, places in line.stations)
    if len(running) > room:
        return made_up_state(rng, line)
    who = running + [None] * rng.randint(0, room - len(running))
    rng.shuffle(who)
    free = [[handlers, places] for handlers, _, places in line.stations]
    told = [([], []) for _ in line.stations]
    for one in who:
        place, side = rng.choice([(place, side) for place, left in enumerate(free) for side in (0, 1) if left[side]])
        free[place][side] -= 1
        told[place][side].append((rng.randint(1, line.stations[place][1]), one) if side == 0 else one)
    stations = tuple((tuple(inside), tuple(queue)) for inside, queue in told)
    return rng.randrange(line.gap), tuple(requests), stations


class LineTest(Case):
    def test_fields(self):
        line = Line(**RIGHT)
        for name, value in RIGHT.items():
            self.same(getattr(line, name), value)
            with self.assertRaises(AttributeError):
                setattr(line, name, value)
        plain = Line(((1, 1, 0),), limit=1, gap=1)
        self.assertEqual([plain.tries, plain.pause, plain.ending], [1, 1, 'go'])

    def test_bounds(self):
        right = {'stations': (((1, 1, 0),), ((4, 10, 10),) * 3, ((4, 10, 10), (1, 1, 0))), 'gap': (1, 20), 'limit': (1, 30),
                 'tries': (1, 3), 'pause': (1, 10), 'ending': ('go', 'stop')}
        wrong = {'stations': ((), ((1, 1, 0),) * 4, [(1, 1, 0)], (1, 1, 0), ([1, 1, 0],), ((0, 1, 0),), ((5, 1, 0),),
                              ((1, 0, 0),), ((1, 11, 0),), ((1, 1, -1),), ((1, 1, 11),), ((1, 1),), ((1, 1, 0, 0),),
                              ((True, 1, 0),), ((1, True, 0),), ((1, 1, False),), ((1, 1, 0), None), (Awkward(),)),
                 'gap': (0, 21, True, -1, '1', 1.5), 'limit': (0, 31, True), 'tries': (0, 4, True),
                 'pause': (0, 11, True), 'ending': ('deadline', 'Go', '', ('go',), ('stop', 0), True)}
        for field in FIELDS:
            for value in right[field]:
                self.assertEqual(getattr(Line(**{**RIGHT, field: value}), field), value)
            for value in wrong[field] + VALUES:
                if value.__class__ is int and field in ('gap', 'limit', 'tries', 'pause') and value in (1, 3):
                    continue
                self.raises(InvalidLine, {'field': field}, Line, **{**RIGHT, field: value})

    def test_the_first_wrong_field(self):
        for number, field in enumerate(FIELDS):
            fields = {**RIGHT, **{name: None for name in FIELDS[number:]}}
            self.raises(InvalidLine, {'field': field}, Line, **fields)
        self.assertRaises(TypeError, Line, ((1, 1, 0),), 1, 1)

    def test_equality(self):
        line = Line(**RIGHT)
        self.assertTrue(line == Line(**RIGHT))
        self.assertFalse(line != Line(**RIGHT))
        others = {'stations': ((1, 2, 4), (2, 3, 1)), 'gap': 3, 'limit': 8, 'tries': 2, 'pause': 3, 'ending': 'go'}
        for field in FIELDS:
            self.assertTrue(line != Line(**{**RIGHT, field: others[field]}))
            self.assertFalse(line == Line(**{**RIGHT, field: others[field]}))
        for value in VALUES:
            if not isinstance(value, Awkward):
                self.assertFalse(line == value)
                self.assertTrue(line != value)


class StatesTest(Case):
    def test_of_the_document(self):
        self.assertEqual([row[1:] for row in EXAMPLE.run(1, 6)],
                         [(0, 0, 0), (0, 0, 0), (1, 0, 0), (0, 1, 0), (0, 0, 0), (0, 1, 0)])

    def test_by_hand(self):
        rows = [row[0] for row in EXAMPLE.run(1, 4)]
        self.assertEqual(rows, [(0, ((0, None, 3), (0, None, 3)), ((((2, 0),), (1,)),)),
                                (1, ((0, None, 2), (0, None, 2)), ((((1, 0),), (1,)),)),
                                (0, ((0, None, 1), (0, None, 3)), ((((2, 0),), (1,)),)),
                                (1, ((0, None, 2),), ((((1, None),), (0,)),))])
        self.assertEqual(EXAMPLE.first(), (0, ((0, None, 3),), ((((2, 0),), ()),)))
        self.assertEqual(EXAMPLE.first(outage=1), (0, ((0, None, 3),), (((), (0,)),)))
        self.assertEqual(EXAMPLE.first(5)[2], ((((2, 0),), (1, 2, 3, 4)),))
        refusing = Line(((1, 2, 0),), gap=5, limit=2, tries=2, pause=3)
        self.assertEqual(refusing.first(1), (0, ((1, None, 2), (1, 3, None)), ((((2, 0),), ()),)))
        self.assertEqual([row[1:] for row in refusing.run(1, 6)],
                         [(0, 0, 1), (0, 0, 0), (1, 0, 0), (0, 0, 0), (0, 0, 0), (1, 0, 0)])

    def test_an_entry_that_leaves_a_station_as_its_try_is_given_up(self):
        for ending, inside in (('go', ((3, None),)), ('stop', ())):
            line = Line(((1, 2, 0), (1, 3, 0)), gap=20, limit=2, ending=ending)
            rows = list(line.run(0, 3))
            self.assertEqual(rows[2], ((2, (), (((), ()), (inside, ()))), 0, 1, 0))

    def test_an_answer_at_the_limit(self):
        line = Line(((1, 2, 0),), gap=20, limit=2)
        self.assertEqual([row[1:] for row in line.run(0, 3)], [(0, 0, 0), (0, 0, 0), (1, 0, 0)])

    def test_entries_for_nobody_are_not_counted(self):
        line = Line(((2, 1, 0), (1, 3, 0)), gap=20, limit=1, ending='go')
        rows = [row[1:] for row in line.run(1, 9)]
        self.assertEqual(rows, [(0, 0, 0), (0, 2, 0)] + [(0, 0, 0)] * 7)

    def test_drawn_lines(self):
        for seed in range(150):
            rng = random.Random(f'lines {seed}')
            line = drawn_line(rng)
            burst, outage = rng.choice((0, 1, 5, rng.randint(0, 30))), rng.choice((0, 0, 1, 7))
            slow = SlowLine(line, burst, outage)
            rows = list(line.run(burst, 40, outage))
            state = None
            for tick, row in enumerate(rows):
                self.assertEqual(row, slow.step(), (seed, tick))
                if tick == 0:
                    self.assertEqual(line.first(burst, outage), row[0])
                else:
                    self.same(line.next(state, tick < outage), row)
                state = row[0]

    def test_made_up_states(self):
        for seed in range(400):
            rng = random.Random(f'made up {seed}')
            line = drawn_line(rng, 3)
            state = made_up_state(rng, line)
            for is_down in (False, True):
                slow = SlowLine(line, state=state)
                told = line.next(state, is_down)
                self.assertEqual(told, slow.step(is_down), (seed, state, is_down))
                for _ in range(6):
                    told = line.next(told[0])
                    self.assertEqual(told, slow.step(False), (seed, state, is_down))

    def test_next_by_name(self):
        state = EXAMPLE.first(burst=2)
        self.assertEqual(EXAMPLE.next(is_down=True, state=state), EXAMPLE.next(state, True))
        self.assertEqual(EXAMPLE.next(state=state), EXAMPLE.next(state, False))
        self.assertEqual(EXAMPLE.first(outage=1, burst=2), EXAMPLE.first(2, 1))
        self.assertEqual(list(EXAMPLE.run(outage=1, ticks=4, burst=2)), list(EXAMPLE.run(2, 4, 1)))
        self.assertEqual(list(EXAMPLE.run(ticks=3, burst=2)), list(EXAMPLE.run(2, 3, 0)))


class WrongValuesTest(Case):
    LINE = Line(((2, 3, 2), (1, 2, 1)), gap=3, limit=5, tries=2, pause=2)
    STATE = (1, ((1, None, 5), (1, 2, None), (0, None, 1), (0, None, 3)), ((((3, 0), (1, None)), (2,)), (((2, 3),), (None,))))

    def test_a_right_state(self):
        self.LINE.next(self.STATE)
        self.LINE.next((0, (), (((), ()), ((), ()))))

    def test_any_value(self):
        for value in VALUES:
            self.raises(InvalidState, {'value': value}, self.LINE.next, value)
            self.raises(InvalidState, {'value': value}, self.LINE.next, value, value)
            self.raises(InvalidState, {'value': (value, value, value)}, self.LINE.next, (value, value, value))
            for place in range(3):
                state = self.STATE[:place] + (value,) + self.STATE[place + 1:]
                if place == 0 and value.__class__ is int and value in (0, 1):
                    self.LINE.next(state)
                else:
                    self.raises(InvalidState, {'value': state}, self.LINE.next, state)

    def test_wrong_requests(self):
        for wrong in ((2, None, 5), (-1, None, 5), (1, None, 0), (1, None, 6), (1, 1, 5), (1, None, None), (True, None, 5),
                      (1, None, True), (1, None), [1, None, 5], (1, None, 5, 5), (1, 2, None), None):
            state = (1, (wrong,) + self.STATE[1][1:], self.STATE[2])
            self.raises(InvalidState, {'value': state}, self.LINE.next, state)
        for wrong in ((0, 2, None), (1, 0, None), (1, 3, None), (1, True, None), (1, None, 2), (2, 1, None)):
            state = (1, self.STATE[1][:1] + (wrong,) + self.STATE[1][2:], self.STATE[2])
            self.raises(InvalidState, {'value': state}, self.LINE.next, state)

    def test_wrong_stations(self):
        first, second = self.STATE[2]
        for wrong in (((first,)), (first, second, second), (first, first), ((((0, 0), (1, None)), (2,)), second),
                      ((((4, 0), (1, None)), (2,)), second), ((((3, 0), (1, None), (1, None)), (2,)), second),
                      ((((3, 0), (1, None)), (2, None, None)), second), ((((3, 1), (1, None)), (2,)), second),
                      ((((3, 0), (1, 0)), (2,)), second), ((((3, 0), (1, None)), (None,)), second),
                      ((((3, 4), (1, None)), (2,)), second), ((((3, -1), (1, None)), (2,)), second),
                      ((((3, False), (1, None)), (2,)), second), ((((True, 0), (1, None)), (2,)), second),
                      ((((3, 0), (1, None)), (2, 2)), second), (([(3, 0), (1, None)], (2,)), second),
                      ((((3, 0), (1, None)), [2]), second), (([3, 0], (1, None)), second), ((((3, 0, 0),), (2,)), second),
                      ((((3,),), (2,)), second), (((), ()), second), [first, second], ((first[0],), second),
                      ((first[0], first[1], ()), second), (first, ((2, 3), (None,))), (first, (((2, 3), (2, None)), ())),
                      (first, (((2, Awkward()),), (None,))), (first, (((2, 3),), (Awkward(),)))):
            state = self.STATE[:2] + (wrong,)
            self.raises(InvalidState, {'value': state}, self.LINE.next, state)
        for wrong in (-1, 3, True):
            state = (wrong,) + self.STATE[1:]
            self.raises(InvalidState, {'value': state}, self.LINE.next, state)

    def test_wrong_numbers(self):
        for value in VALUES:
            if not isinstance(value, bool):
                self.raises(InvalidNumber, {'value': value}, self.LINE.next, self.STATE, value)
            if value.__class__ is int and 0 <= value <= 30:
                continue
            for call in (lambda number: self.LINE.first(number, number), lambda number: list(self.LINE.run(number, number)),
                         lambda number: self.LINE.first(3, number), lambda number: list(self.LINE.run(3, number, number)),
                         lambda number: list(self.LINE.run(3, 3, number)), lambda number: fate(self.LINE, number, number),
                         lambda number: fate(self.LINE, 3, number), lambda number: feeds(self.LINE, number, number),
                         lambda number: feeds(self.LINE, 3, number), lambda number: least_burst(self.LINE, number),
                         lambda number: least_outage(self.LINE, number), lambda number: greatest_gap(self.LINE, number)):
                self.raises(InvalidNumber, {'value': value}, call, value)

    def test_bounds_of_numbers(self):
        line = Line(((4, 1, 10),), gap=20, limit=30)
        line.first(30, 60)
        self.assertEqual(list(line.run(30, 0, 60)), [])
        self.assertEqual(len(list(line.run(30, 5000, 60))), 5000)
        self.assertEqual(fate(line, 30, 60)[0], 'out')
        self.assertIsNone(least_burst(line, 30))
        self.assertIsNone(least_burst(line, 0))
        self.assertIsNone(least_outage(line, 0))
        for number, call in ((31, lambda: line.first(31, 61)), (61, lambda: line.first(30, 61)),
                             (31, lambda: list(line.run(31, 5001, 61))), (5001, lambda: list(line.run(30, 5001, 61))),
                             (-1, lambda: list(line.run(30, -1))), (61, lambda: list(line.run(30, 5000, 61))),
                             (31, lambda: fate(line, 31)), (61, lambda: fate(line, 0, 61)), (31, lambda: feeds(line, 31)),
                             (31, lambda: least_burst(line, 31)), (61, lambda: least_outage(line, 61)),
                             (31, lambda: greatest_gap(line, 31))):
            self.raises(InvalidNumber, {'value': number}, call)

    def test_run_raises_when_the_iteration_begins(self):
        rows = self.LINE.run(None, None, None)
        self.raises(InvalidNumber, {'value': None}, next, rows)


def slow_fate(line, burst, outage):
    """what comes of a burst, by the states of 300 ticks."""
    both = [SlowLine(line, burst, outage), SlowLine(line)]
    rows = [tuple(one.step() for one in both) for _ in range(300)]
    states = [(one[0], other[0]) for one, other in rows]
    for tick in range(outage, 300):
        if states[tick][0] == states[tick][1]:
            return ('out', tick), False
        if states[tick] in states[outage:tick]:
            begin = outage + states[outage:tick].index(states[tick])
            harmed = sum(row[2] + row[3] for row, _ in rows[begin + 1:tick + 1])
            return ('stays', begin, tick - begin), harmed > 0
    return None, None


def built(stations, gap, limit, tries, pause, ending):
    return Line(stations, gap=gap, limit=limit, tries=tries, pause=pause, ending=ending)


class FateTest(Case):
    def test_of_the_document(self):
        told = [fate(EXAMPLE, 0), fate(EXAMPLE, 1), feeds(EXAMPLE, 1), least_burst(EXAMPLE, 5), greatest_gap(EXAMPLE, 1)]
        self.same(told, [('out', 0), ('stays', 2, 2), True, 1, 2])

    def test_drawn(self):
        seen = {}
        for seed in range(120):
            rng = random.Random(f'fates {seed}')
            line = drawn_line(rng)
            burst, outage = rng.choice((0, 1, 3, 10)), rng.choice((0, 0, 2, 9))
            told, harmed = slow_fate(line, burst, outage)
            kind = (told[0], harmed) if told else None
            seen[kind] = seen.get(kind, 0) + 1
            if told is None:
                self.raises(LimitExceeded, {'most': 300}, fate, line, burst, outage)
                self.raises(LimitExceeded, {'most': 300}, feeds, line, burst, outage)
            else:
                self.same(fate(line, burst, outage), told)
                self.same(feeds(line, burst, outage), harmed)
        self.assertGreater(seen['out', False], 20)
        self.assertGreater(seen['stays', True], 5)
        self.assertGreater(seen['stays', False], 1)

    def test_neither_within_300_ticks(self):
        found = 0
        for ending, outage in (('go', 60), ('stop', 0), ('stop', 60), ('go', 0)):
            line = Line(((1, 10, 10),), gap=4, limit=30, tries=3, pause=10, ending=ending)
            told, _ = slow_fate(line, 1, outage)
            if told is None:
                found += 1
                self.raises(LimitExceeded, {'most': 300}, fate, line, 1, outage)
                self.raises(LimitExceeded, {'most': 300}, feeds, line, 1, outage)
                self.raises(LimitExceeded, {'most': 300}, least_burst, line, 3) if outage == 0 else None
            else:
                self.assertEqual(fate(line, 1, outage), told)
        self.assertEqual(found, 3)

    def test_least_and_greatest(self):
        for seed in range(30):
            line = drawn_line(random.Random(f'least {seed}'), 3)
            self.check(least_burst, line, 6, [(burst, line, burst, 0) for burst in range(1, 7)])
            self.check(least_outage, line, 8, [(outage, line, 0, outage) for outage in range(1, 9)])
            if seed < 8:
                gaps = [(gap, Line(line.stations, gap=gap, limit=line.limit, tries=line.tries, pause=line.pause,
                                   ending=line.ending), 2, 0) for gap in range(20, 0, -1)]
                self.check(greatest_gap, line, 2, gaps)

    def test_just_the_ticks_of_one_round_count(self):
        for fields, burst, outage, wanted in (
                ((((1, 3, 1), (2, 3, 1)), 3, 11, 2, 1, 'stop'), 10, 0, ('stays', 6, 3)),
                ((((1, 3, 1),), 3, 9, 3, 4, 'stop'), 10, 0, ('stays', 8, 3)),
                ((((1, 2, 1), (3, 2, 2)), 2, 7, 3, 3, 'go'), 0, 2, ('stays', 4, 2)),
                ((((2, 2, 1), (1, 3, 1), (1, 2, 4)), 3, 10, 3, 2, 'stop'), 10, 2, ('stays', 30, 9)),
                ((((1, 3, 2), (1, 3, 2), (1, 2, 1)), 3, 8, 1, 3, 'stop'), 1, 5, ('stays', 11, 3))):
            line = built(*fields)
            self.same(fate(line, burst, outage), wanted)
            self.assertEqual((wanted, feeds(line, burst, outage)), slow_fate(line, burst, outage))

    def test_bounds_of_what_is_tried(self):
        line = built(((1, 2, 4),), 1, 10, 3, 4, 'stop')
        self.assertEqual([least_burst(line, most) for most in (0, 1, 4, 5, 6)], [None, None, None, 5, 5])
        line = built(((3, 2, 1), (1, 2, 3), (1, 3, 4)), 5, 8, 2, 3, 'go')
        self.assertEqual([least_outage(line, most) for most in (0, 1, 4, 5, 6)], [None, None, None, 5, 5])
        self.assertEqual(greatest_gap(built(((3, 1, 4), (3, 3, 1)), 2, 11, 3, 3, 'stop'), 2), 1)
        line = built(((1, 1, 0), (1, 2, 4), (3, 2, 2)), 1, 9, 1, 4, 'stop')
        self.assertEqual([feeds(line, 0), feeds(line, 0, 0), feeds(line, 0, 1)], [False, False, True])
        self.assertEqual([fate(line, 0), fate(line, 0, 0)], [('out', 0), ('out', 0)])

    def check(self, call, line, argument, rows):
        for number, other, burst, outage in rows:
            told = slow_fate(other, burst, outage)[0]
            if told is None:
                self.raises(LimitExceeded, {'most': 300}, call, line, argument)
                return
            if told[0] == 'stays':
                self.same(call(line, argument), number)
                return
        self.assertIsNone(call(line, argument))

    def test_names_of_arguments(self):
        self.assertEqual(fate(outage=1, burst=1, line=EXAMPLE), fate(EXAMPLE, 1, 1))
        self.assertEqual(feeds(outage=0, burst=1, line=EXAMPLE), True)
        self.assertEqual(least_burst(most=5, line=EXAMPLE), 1)
        self.assertEqual(least_outage(most=5, line=EXAMPLE), least_outage(EXAMPLE, 5))
        self.assertEqual(greatest_gap(burst=1, line=EXAMPLE), 2)


if __name__ == '__main__':
    unittest.main()
