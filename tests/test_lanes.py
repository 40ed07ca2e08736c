import random
import unittest

import slowlanes
from brute import all_runs
from helpers import VALUES, Awkward, Case, tuples_around
from mostcalls.errors import (InvalidChoice, InvalidChoices, InvalidLane, InvalidMeasure, InvalidState, InvalidStep,
                              UnknownName)
from mostcalls.lanes import Lane
from mostcalls.machine import Run, play
from mostcalls.patterns import Pattern, all_patterns
from mostcalls.policies import Policy
from mostcalls.systems import System

RISKY = System([Policy('r', 3, tries=3)], [('a', (('risk',),)), ('e', (('call', 'a', 'r'),))])
BOTH = (True, False)


def possible(lane):
    """which outcomes a try can have, by all runs of one."""
    runs = all_runs(slowlanes.with_tries(lane.system, lane.entry, 1), lane.entry)
    return sorted({run.how == 'answered' for run in runs})


def tries_of(run):
    """whether each try that began was answered."""
    many = len([span for span in run.spans() if len(span[0]) == 2])
    return (False,) * (many - 1) + (run.how == 'answered',)


class LaneTest(Case):
    def test_properties(self):
        lane = Lane(RISKY, 'e', gap=(1, 4), budget=(2, 3, 4), breaker=(4, 12))
        self.assertTrue(lane.system == RISKY)
        self.same([lane.entry, lane.gap, lane.budget, lane.breaker], ['e', (1, 4), (2, 3, 4), (4, 12)])
        plain = Lane(entry='e', system=RISKY)
        self.same([plain.gap, plain.budget, plain.breaker], [(0, 0), None, None])
        for name in ('system', 'entry', 'gap', 'budget', 'breaker'):
            with self.assertRaises(AttributeError):
                setattr(lane, name, None)

    def test_entries(self):
        text = [('a', (('risk',),))]
        policy, early = Policy('r', 3, tries=3), Policy('r', 3, tries=3, early=1)
        other = Policy('s', 3)
        for policies, blocks in (([policy], [('e', ())]), ([policy], [('e', (('want', 'a', 'r'),))]),
                                 ([policy], [('e', (('call', 'a', 'r'), ('risk',)))]), ([policy], [('e', (('risk',),))]),
                                 ([policy], [('e', (('run', 0, 0), ('call', 'a', 'r')))]),
                                 ([policy], [('e', (('maybe', (('call', 'a', 'r'),)),))]),
                                 ([policy], [('b', (('want', 'a', 'r'),)), ('e', (('call', 'a', 'r'),))]),
                                 ([policy, other], [('e', (('call', 'a', 'r'),)), ('f', (('both', (), (('call', 'a', 'r'),)),))]),
                                 ([early], [('e', (('call', 'a', 'r'),))])):
            system = System(policies, text + blocks)
            self.raises(InvalidLane, {'field': 'entry'}, Lane, system, 'e')
            self.raises(InvalidLane, {'field': 'entry'}, Lane, system, 'a')
            self.raises(InvalidLane, {'field': 'entry'}, Lane, system, 'e', gap=None, budget=1, breaker=1)
        Lane(System([policy, other], text + [('e', (('call', 'a', 'r'),)), ('f', (('call', 'e', 's'),))]), 'e')
        for value in VALUES:
            if not (isinstance(value, str) and value == 'a'):
                self.raises(UnknownName, {'value': value}, Lane, RISKY, value, gap=value, budget=value, breaker=value)

    def test_bounds(self):
        right = {'gap': ((0, 0), (20, 20), (0, 20), (3, 4)), 'budget': (None, (1, 1, 1), (8, 8, 8), (1, 8, 8), (1, 8, 1)),
                 'breaker': (None, (1, 1), (4, 12), (1, 12), (4, 1))}
        wrong = {'gap': ((0, 21), (-1, 0), (4, 3), (0,), (0, 1, 2), [0, 1], (True, 1), (0, True), ('0', 1), None),
                 'budget': ((0, 1, 1), (1, 9, 1), (1, 1, 9), (1, 1, 0), (3, 2, 1), (1, 1), (1, 1, 1, 1), [1, 1, 1],
                            (True, 1, 1), (1, True, 1), (1, 1, True), (1, 0, 1)),
                 'breaker': ((0, 1), (5, 1), (1, 0), (1, 13), (1,), (1, 1, 1), [1, 1], (True, 1), (1, True))}
        for field in right:
            for value in right[field]:
                self.assertEqual(getattr(Lane(RISKY, 'e', **{field: value}), field), value)
            for value in wrong[field] + VALUES + tuples_around(Awkward()):
                if value is None and field != 'gap':
                    continue
                if field != 'budget' and isinstance(value, tuple) and [type(item) for item in value] == [int, int] and \
                        value == (1, 2):
                    continue
                self.raises(InvalidLane, {'field': field}, Lane, RISKY, 'e', **{field: value})
        self.raises(InvalidLane, {'field': 'gap'}, Lane, RISKY, 'e', gap=1, budget=1, breaker=1)
        self.raises(InvalidLane, {'field': 'budget'}, Lane, RISKY, 'e', budget=1, breaker=1)


class StatesTest(Case):
    def test_by_hand(self):
        lane = Lane(RISKY, 'e', budget=(1, 3, 2))
        self.same(lane.first(), (6, 0, 0))
        self.same(list(lane), [(tokens, 0, 0) for tokens in range(7)])
        self.same(len(lane), 7)
        self.same(lane.steps((6, 0, 0)), [(((False, False, False), 0), (0, 0, 0)), (((False, False, True), 0), (0, 0, 0)),
                                          (((False, True), 0), (3, 0, 0)), (((True,), 0), (6, 0, 0))])
        self.same(lane.steps((1, 0, 0)), [(((False,), 0), (2, 0, 0)), (((True,), 0), (2, 0, 0))])
        self.same(lane.steps((2, 0, 0)), [(((False, False), 0), (0, 0, 0)), (((False, True), 0), (0, 0, 0)),
                                          (((True,), 0), (3, 0, 0))])
        self.same(Lane(RISKY, 'e').first(), (0, 0, 0))
        self.same(list(Lane(RISKY, 'e')), [(0, 0, 0)])

    def test_a_breaker_by_hand(self):
        system = RISKY.with_policy(Policy('r', 3, tries=3, pauses=(2, 0)))
        lane = Lane(system, 'e', gap=(1, 2), breaker=(2, 3))
        self.same(lane.first(), (0, 0, 0))
        # The second try is the second fail: the breaker opens for 3 ticks, there is no pause behind it.
        self.same(lane.steps((0, 0, 0)), [(((False, False), 1), (0, 1, 2)), (((False, False), 2), (0, 1, 1)),
                                          (((False, True), 1), (0, 0, 0)), (((False, True), 2), (0, 0, 0)),
                                          (((True,), 1), (0, 0, 0)), (((True,), 2), (0, 0, 0))])
        # The first try opens it; it is still closed behind the pause of 2.
        self.same(lane.steps((0, 1, 0)), [(((False,), 1), (0, 1, 0)), (((False,), 2), (0, 1, 0)),
                                          (((True,), 1), (0, 0, 0)), (((True,), 2), (0, 0, 0))])
        self.same(lane.steps((0, 1, 2)), [(((), 1), (0, 1, 1)), (((), 2), (0, 1, 0))])
        self.same(lane.after((0, 1, 2), ((), 2)), (0, 1, 0))
        self.same(list(lane), [(0, 0, 0), (0, 1, 0), (0, 1, 1), (0, 1, 2)])

    def test_closed_goes_ahead_of_tokens(self):
        system = RISKY.with_policy(Policy('r', 3, tries=2, pauses=(1,)))
        lane = Lane(system, 'e', budget=(1, 2, 1), breaker=(1, 2))
        # Nothing is paid for a try that is not let through.
        self.same(lane.after((2, 0, 0), ((False,), 0)), (2, 0, 1))
        # A refused request adds no token, and with a gap of 0 it stays refused.
        self.same(lane.steps((2, 0, 1)), [(((), 0), (2, 0, 1))])
        open_again = Lane(system, 'e', budget=(1, 2, 1), breaker=(1, 1))
        self.same(open_again.after((2, 0, 0), ((False, False), 0)), (0, 0, 1))

    def test_drawn(self):
        for seed in range(150):
            lane = slowlanes.drawn_lane(seed)
            outcomes = possible(lane)
            told = slowlanes.states(lane, outcomes)
            self.same(list(lane), told)
            self.assertEqual(len(lane), len(told))
            for state in lane:
                self.assertTrue(state in lane)
                wanted = slowlanes.steps(lane, state, outcomes)
                self.same(lane.steps(state), wanted)
                for step, behind in wanted:
                    self.same(lane.after(state, step), behind)
            self.check_wrong_steps(lane)

    def check_wrong_steps(self, lane):
        all_steps = {step for state in lane for step, _ in lane.steps(state)}
        for state in list(lane)[:6]:
            mine = {step for step, _ in lane.steps(state)}
            for step in all_steps - mine:
                self.raises(InvalidStep, {'value': step}, lane.after, state, step)
            for ways, gap in mine:
                for wrong in ((ways, lane.gap[1] + 1), (ways, lane.gap[0] - 1), (ways + (True, True, True, True), gap),
                              (list(ways), gap), [ways, gap], (ways, gap, gap), (ways,), ways, (ways, None)):
                    self.raises(InvalidStep, {'value': wrong}, lane.after, state, wrong)
                if ways:
                    wrong = (tuple(int(way) for way in ways), gap)
                    self.raises(InvalidStep, {'value': wrong}, lane.after, state, wrong)

    def test_other_values(self):
        lane = Lane(RISKY, 'e', gap=(0, 1), budget=(1, 3, 2), breaker=(2, 2))
        wrong = ((7, 0, 0), (6, 0), (6, 0, 0, 0), (6, False, 0), (6, 0, 9), [6, 0, 0], (-1, 0, 0), (6, 2, 0), (Awkward(), 0, 0))
        for value in VALUES + wrong:
            self.assertFalse(value in lane)
            self.raises(InvalidState, {'value': value}, lane.steps, value)
            self.raises(InvalidState, {'value': value}, lane.after, value, value)
            self.raises(InvalidState, {'value': value}, lane.request, value, value, value)
            self.raises(InvalidStep, {'value': value}, lane.after, (6, 0, 0), value)
            for wrong_step in ((value, value), (value, 0), ((True,), value), ((value,), 0)):
                ways, gap = wrong_step
                if isinstance(ways, tuple) and [type(way) for way in ways] == [bool] and ways == (True,) and \
                        type(gap) is int and gap in (0, 1):
                    continue
                self.raises(InvalidStep, {'value': wrong_step}, lane.after, (6, 0, 0), wrong_step)
                if isinstance(wrong_step[0], tuple) and all(isinstance(way, bool) for way in wrong_step[0]):
                    continue
                self.raises(InvalidStep, {'value': wrong_step}, lane.weight, ('calls', 'a'), wrong_step)

    def test_told_values_are_new(self):
        lane = Lane(RISKY, 'e')
        lane.steps((0, 0, 0)).clear()
        self.assertEqual(len(lane.steps((0, 0, 0))), 4)


class WeightTest(Case):
    def test_by_hand(self):
        lane = Lane(RISKY, 'e', budget=(1, 3, 2))
        for ways in ((True,), (False, True), (False, False, True), (False, False, False), (False,), (False, False)):
            self.same(lane.weight(('calls', 'a'), (ways, 0)), len(ways))
            self.same(lane.weight(('calls', 'e'), (ways, 0)), 0)
        breaking = Lane(RISKY, 'e', breaker=(1, 1))
        self.same(breaking.weight(('calls', 'a'), ((), 0)), 0)

    def test_drawn(self):
        for seed in range(60):
            lane = slowlanes.drawn_lane(seed)
            runs = {}
            for many in (1, 2, 3):
                if many <= lane.system.policy('p').tries:
                    found = all_runs(slowlanes.with_tries(lane.system, 'e', many), 'e', 3000)
                    if found is None:
                        break
                    runs[many] = found
            steps = sorted({step for state in lane for step, _ in lane.steps(state)})
            for ways, gap in steps:
                if ways and len(ways) not in runs:
                    continue
                mine = [run for run in runs[len(ways)] if tries_of(run) == ways] if ways else []
                for measure in [(kind, name) for kind in ('calls', 'work', 'nobody') for name in 'abe']:
                    wanted = max([run.measured(measure) for run in mine]) if ways else 0
                    self.same(lane.weight(measure, (ways, gap)), wanted)

    def test_errors_in_order(self):
        lane = Lane(RISKY, 'e')
        for value in VALUES + (('last',), ('calls', 'a', 0), ('calls', 'b'), ('answer',)):
            self.raises(InvalidMeasure, {'value': value}, lane.weight, value, value)
        for value in VALUES + (((), 0), ((False,), 0), ((True,), 1), ((True, True), 0), ((False, False, False, False), 0)):
            self.raises(InvalidStep, {'value': value}, lane.weight, ('calls', 'a'), value)
        self.same(lane.weight(step=((True,), 0), measure=('calls', 'a')), 1)


class RequestTest(Case):
    def test_by_hand(self):
        lane = Lane(RISKY, 'e', gap=(0, 2), budget=(1, 3, 1), breaker=(4, 9))
        pattern = Pattern('e', {(0, 0, 0): 1, (0, 1, 0): 1})
        step, behind, run = lane.request((3, 0, 0), pattern, 2)
        self.same((step, behind), (((False, False), 2), (0, 2, 0)))
        self.assertIsInstance(run, Run)
        self.assertEqual([span[0] for span in run], [(), (0, 0), (0, 1)])
        self.assertEqual([run.how, run.faults, len(run)], ['failed', 2, 3])
        step, behind, run = lane.request((0, 2, 0), pattern, 0)
        self.same((step, behind), (((False,), 0), (1, 3, 0)))
        self.assertEqual(len(run), 2)
        step, behind, run = lane.request((1, 3, 0), pattern, 1)
        self.same((step, behind), (((False,), 1), (2, 3, 8)))
        self.same(lane.request((2, 3, 8), pattern, 1), (((), 1), (2, 3, 7), None))
        self.same(lane.request(gap=2, pattern=pattern, state=(2, 3, 8))[:2], (((), 2), (2, 3, 6)))

    def test_drawn(self):
        for seed in range(40):
            lane = slowlanes.drawn_lane(seed)
            rng = random.Random(seed)
            patterns = [pattern for pattern, _ in zip(all_patterns(lane.system, 'e'), range(400))]
            for pattern in rng.sample(patterns, min(len(patterns), 12)):
                for state in rng.sample(list(lane), min(len(lane), 4)):
                    gap = rng.randint(*lane.gap)
                    step, behind, run = lane.request(state, pattern, gap)
                    self.same(lane.after(state, step), behind)
                    self.assertEqual(step[1], gap)
                    if step[0] == ():
                        self.assertIsNone(run)
                        continue
                    wanted = play(slowlanes.with_tries(lane.system, 'e', len(step[0])), pattern)
                    self.assertEqual(run, wanted)
                    self.assertEqual(tries_of(run), step[0])

    def test_errors_in_order(self):
        lane = Lane(RISKY, 'e', gap=(1, 2), breaker=(1, 2))
        for value in VALUES:
            self.raises(InvalidState, {'value': value}, lane.request, value, value, value)
            self.raises(InvalidChoices, {'value': value}, lane.request, (0, 0, 0), value, value)
            if not (value.__class__ is int and value in (1, 2)):
                self.raises(InvalidStep, {'value': value}, lane.request, (0, 0, 0), Pattern('e', {}), value)
        other = Pattern('a', {})
        self.raises(InvalidChoices, {'value': other}, lane.request, (0, 0, 0), other, None)
        wrong = Pattern('e', {(0, 0, 0): 2, (0, 1, 0): 3})
        self.raises(InvalidChoice, {'path': (0, 0, 0)}, lane.request, (0, 0, 0), wrong, None)
        later = Pattern('e', {(0, 0, 0): 1, (0, 1, 0): 3})
        # The second try is not let through, so its choice is not met.
        self.assertEqual(lane.request((0, 0, 0), later, 1)[0], ((False,), 1))
        self.raises(InvalidChoice, {'path': (0, 1, 0)}, Lane(RISKY, 'e').request, (0, 0, 0), later, 5)
        self.raises(InvalidStep, {'value': 0}, lane.request, (0, 0, 1), wrong, 0)


if __name__ == '__main__':
    unittest.main()
