import random
import unittest
from fractions import Fraction

import slowlanes
from helpers import VALUES, Awkward, Case, tuples_around
from mostcalls.errors import InvalidMeasure
from mostcalls.lanes import Lane
from mostcalls.longrun import check_ring, greatest_mean, ring_paper, ring_patterns
from mostcalls.policies import Policy
from mostcalls.systems import System

RISKY = System([Policy('r', 3, tries=3)], [('a', (('risk',),)), ('e', (('call', 'a', 'r'),))])
CALLS = ('calls', 'a')


def all_rings(lane):
    """the steps and states of all rings in which no state but the first one comes twice."""
    moves = {state: lane.steps(state) for state in lane}

    def longer(path, steps):
        for step, behind in moves[path[-1]]:
            if behind == path[0]:
                yield steps + [step]
            elif behind > path[0] and behind not in path:
                yield from longer(path + [behind], steps + [step])
    for state in lane:
        yield from longer([state], [])


class MeanTest(Case):
    def test_of_the_document(self):
        lane = Lane(RISKY, 'e', budget=(1, 3, 2))
        self.same([lane.first(), greatest_mean(lane, CALLS), greatest_mean(Lane(RISKY, 'e'), CALLS)],
                  [(6, 0, 0), (4, 3), (3, 1)])

    def test_budgets_by_hand(self):
        # A further try costs whole tokens, each request brings part of them.
        for part, whole, most in ((1, 1, 1), (1, 2, 3), (2, 3, 4), (3, 8, 8), (5, 7, 2), (1, 8, 1)):
            # With 1 whole at most, one further try a request is paid.
            told = Fraction(1) + min(Fraction(part, whole), Fraction(2))
            self.same(greatest_mean(Lane(RISKY, 'e', budget=(part, whole, most)), CALLS), (told.numerator, told.denominator))

    def test_breakers_by_hand(self):
        once = RISKY.with_policy(Policy('r', 3))
        # Behind each fail 4 ticks are closed: with a gap of 1, three refused requests for each that is let through.
        self.same(greatest_mean(Lane(once, 'e', gap=(1, 1), breaker=(1, 4)), CALLS), (1, 1))
        only_fails = System([Policy('r', 3)], [('a', (('run', 4, 9),)), ('e', (('call', 'a', 'r'),))])
        self.same(greatest_mean(Lane(only_fails, 'e', gap=(1, 1), breaker=(1, 4)), CALLS), (1, 4))
        self.same(greatest_mean(Lane(only_fails, 'e', gap=(1, 4), breaker=(1, 4)), CALLS), (1, 1))
        self.same(greatest_mean(Lane(only_fails, 'e', gap=(0, 3), breaker=(1, 4)), CALLS), (1, 2))
        self.same(greatest_mean(Lane(only_fails, 'e', breaker=(1, 4)), CALLS), (0, 1))
        self.same(greatest_mean(Lane(only_fails, 'e', breaker=(2, 4)), CALLS), (0, 1))
        self.same(greatest_mean(Lane(only_fails, 'e'), ('nobody', 'a')), (6, 1))
        self.same(greatest_mean(Lane(only_fails, 'e'), ('work', 'e')), (0, 1))

    def test_a_smaller_budget_can_give_more(self):
        system = System([Policy('r', 3, tries=3)], [('a', (('run', 4, 9),)), ('e', (('call', 'a', 'r'),))])
        means = {}
        for budget in ((1, 8, 1), (8, 8, 8)):
            lane = Lane(system, 'e', gap=(1, 1), budget=budget, breaker=(3, 12))
            number, whole = greatest_mean(lane, CALLS)
            means[budget] = Fraction(number, whole)
            self.same((number, whole), slowlanes.greatest_mean(lane, CALLS))

    def test_beside_karps_rule(self):
        for seed in range(60):
            lane = slowlanes.drawn_lane(seed)
            if len(lane) < 60:
                for measure in (CALLS, ('work', 'a'), ('nobody', 'a')):
                    self.same(greatest_mean(lane, measure), slowlanes.greatest_mean(lane, measure))

    def test_beside_all_rings(self):
        done = 0
        for seed in range(150):
            lane = slowlanes.drawn_lane(seed)
            if len(lane) > 7:
                continue
            done += 1
            for measure in (CALLS, ('work', 'a')):
                means = []
                for number, ring in enumerate(all_rings(lane)):
                    means.append(Fraction(sum(lane.weight(measure, step) for step in ring), len(ring)))
                    if number > 20000:
                        break
                else:
                    self.assertEqual(Fraction(*greatest_mean(lane, measure)), max(means))
        self.assertGreater(done, 20)

    def test_large(self):
        system = System([Policy('r', 3, tries=3, pauses=(8, 8), lossy=True)], [('a', (('run', 0, 9), ('risk',))),
                                                                            ('e', (('call', 'a', 'r'),))])
        for named in ({'budget': (1, 8, 8), 'breaker': (4, 12), 'gap': (0, 3)}, {'budget': (7, 8, 8)},
                      {'breaker': (4, 12), 'gap': (0, 20), 'budget': (5, 7, 8)}):
            lane = Lane(system, 'e', **named)
            paper = ring_paper(lane, ('work', 'a'))
            self.same(check_ring(lane, ('work', 'a'), paper), greatest_mean(lane, ('work', 'a')))

    def test_wrong_measures(self):
        lane = Lane(RISKY, 'e')
        for value in VALUES + (('last',), ('calls', 'a', 0), ('work', 'b'), ('answer',)):
            self.raises(InvalidMeasure, {'value': value}, greatest_mean, lane, value)
            self.raises(InvalidMeasure, {'value': value}, ring_paper, lane, value)
            self.raises(InvalidMeasure, {'value': value}, check_ring, lane, value, value)
            self.raises(InvalidMeasure, {'value': value}, ring_patterns, lane, value, value)

    def test_names_of_arguments(self):
        lane = Lane(RISKY, 'e', budget=(1, 3, 2))
        paper = ring_paper(measure=CALLS, lane=lane)
        self.assertEqual(greatest_mean(measure=CALLS, lane=lane), check_ring(paper=paper, measure=CALLS, lane=lane))
        self.assertEqual(len(ring_patterns(paper=paper, measure=CALLS, lane=lane)), len(paper[1]) + len(paper[2]))


class PaperTest(Case):
    def lanes(self, many=60):
        for seed in range(many):
            lane = slowlanes.drawn_lane(seed)
            for measure in (CALLS, ('work', 'a'), ('nobody', 'a'), ('calls', 'b')):
                yield seed, lane, measure

    def test_right_papers(self):
        for _, lane, measure in self.lanes():
            paper = ring_paper(lane, measure)
            mean, way, ring, heights = paper
            self.same(mean, greatest_mean(lane, measure))
            self.same(check_ring(lane, measure, paper), mean)
            self.assertEqual([state for state, _ in heights], list(lane))
            state = lane.first()
            for step in way:
                state = lane.after(state, step)
            begin = state
            for step in ring:
                state = lane.after(state, step)
            self.assertEqual(state, begin)
            total = sum(lane.weight(measure, step) for step in ring)
            self.assertEqual(Fraction(*mean), Fraction(total, len(ring)))
            for state, height in heights:
                for step, behind in lane.steps(state):
                    self.assertLessEqual(mean[1] * lane.weight(measure, step) + dict(heights)[behind], mean[0] + height)

    def test_patterns(self):
        for _, lane, measure in self.lanes():
            paper = ring_paper(lane, measure)
            rows = ring_patterns(lane, measure, paper)
            steps = paper[1] + paper[2]
            self.assertEqual(len(rows), len(steps))
            state = lane.first()
            for (pattern, gap), wanted in zip(rows, steps):
                self.assertEqual(pattern.entry, lane.entry)
                step, state, run = lane.request(state, pattern, gap)
                self.same(step, wanted)
                self.assertEqual(run.measured(measure) if run else 0, lane.weight(measure, step))

    def test_papers_of_others(self):
        """heights that are all raised, more rounds, and ways that go about."""
        for seed, lane, measure in self.lanes(40):
            mean, way, ring, heights = ring_paper(lane, measure)
            higher = tuple((state, height + 7) for state, height in heights)
            self.same(check_ring(lane, measure, (mean, way, ring, higher)), mean)
            self.same(check_ring(lane, measure, (mean, way, ring * 3, heights)), mean)
            self.same(check_ring(lane, measure, (mean, way + ring, ring, heights)), mean)
            turned = ring[1:] + ring[:1]
            self.same(check_ring(lane, measure, (mean, way + ring[:1], turned, heights)), mean)
            self.assertEqual(len(ring_patterns(lane, measure, (mean, way + ring, ring * 2, higher))), len(way) + 3 * len(ring))

    def test_changed_papers(self):
        for seed, lane, measure in self.lanes(40):
            rng = random.Random(seed)
            paper = ring_paper(lane, measure)
            mean, way, ring, heights = paper
            wrong = [((mean[0] + 1, mean[1]), way, ring, heights), ((mean[0] - 1, mean[1]), way, ring, heights),
                     ((mean[0], mean[1] + 1), way, ring, heights), ((2 * mean[0], 2 * mean[1]), way, ring, heights),
                     ((-mean[0], -mean[1]), way, ring, heights), (mean[:1], way, ring, heights),
                     (list(mean), way, ring, heights), (mean, list(way), ring, heights), (mean, way, list(ring), heights),
                     (mean, way, ring, list(heights)), (mean, way, (), heights), (mean, way, ring, heights[1:]),
                     (mean, way, ring, heights[:-1]), (mean, way, ring, heights + heights[-1:]), paper[:3], paper + (1,),
                     list(paper), (mean, way, ring, heights[:-1] + ((heights[-1][0], True),)),
                     (mean, way, ring, heights[:-1] + (list(heights[-1]),)),
                     (mean, way, ring, heights[:-1] + (heights[-1] + (1,),)),
                     (mean, way, ring, heights[:-1] + (((9, 9, 9), heights[-1][1]),)),
                     (mean, way, ring, heights[:-1] + ((heights[-1][0], None),))]
            if len(heights) > 1:
                wrong.append((mean, way, ring, heights[::-1]))
                wrong.append((mean, way, ring, heights[1:2] + heights[:1] + heights[2:]))
            for steps in (way, ring):
                if steps:
                    place = rng.randrange(len(steps))
                    for value in (None, steps[place][0], list(steps[place]), (steps[place][0], -1), ((True,) * 5, 0)):
                        other = steps[:place] + (value,) + steps[place + 1:]
                        wrong.append((mean, other if steps is way else way, other if steps is ring else ring, heights))
            for value in wrong:
                self.assertIsNone(check_ring(lane, measure, value), (seed, value))
                self.assertIsNone(ring_patterns(lane, measure, value))
            self.check_heights(lane, measure, paper, rng)
            self.check_steps(lane, measure, paper, rng)

    def check_heights(self, lane, measure, paper, rng):
        """one height put otherwise: right just if no step gains more."""
        mean, way, ring, heights = paper
        for _ in range(6):
            place = rng.randrange(len(heights))
            state, height = heights[place]
            changed = heights[:place] + ((state, height + rng.choice((-3, -1, 1, 2))),) + heights[place + 1:]
            told = dict(changed)
            holds = all(mean[1] * lane.weight(measure, step) + told[behind] <= mean[0] + told[state]
                        for state in lane for step, behind in lane.steps(state))
            self.assertEqual(check_ring(lane, measure, (mean, way, ring, changed)), mean if holds else None)

    def check_steps(self, lane, measure, paper, rng):
        """one step left out, put in or put otherwise: right just if the way leads there and the mean is the same."""
        mean, way, ring, heights = paper
        everything = sorted({step for state in lane for step, _ in lane.steps(state)})
        for _ in range(10):
            parts = [list(way), list(ring)]
            part = rng.choice(parts)
            what = rng.choice(('out', 'in', 'other'))
            if what == 'in':
                part.insert(rng.randint(0, len(part)), rng.choice(everything))
            elif part:
                place = rng.randrange(len(part))
                part[place:place + 1] = [] if what == 'out' else [rng.choice(everything)]
            changed = (mean, tuple(parts[0]), tuple(parts[1]), heights)
            self.assertEqual(check_ring(lane, measure, changed), mean if self.is_right(lane, measure, changed) else None)

    def is_right(self, lane, measure, paper):
        mean, way, ring, _ = paper
        state = lane.first()
        begin = None
        for number, step in enumerate(way + ring):
            if number == len(way):
                begin = state
            moves = dict(lane.steps(state))
            if step not in moves:
                return False
            state = moves[step]
        if not ring or state != begin:
            return False
        return Fraction(sum(lane.weight(measure, step) for step in ring), len(ring)) == Fraction(*mean)

    def test_a_ring_with_less(self):
        """papers of rings that do not have the greatest mean are never right, whatever heights they tell."""
        lane = Lane(RISKY, 'e', budget=(1, 3, 2))
        heights = ring_paper(lane, CALLS)[3]
        for factor in range(-3, 4):
            told = tuple((state, height * factor) for state, height in heights)
            self.assertIsNone(check_ring(lane, CALLS, ((1, 1), (), (((True,), 0),), told)))

    def test_any_value(self):
        lane = Lane(RISKY, 'e', budget=(1, 3, 2))
        paper = ring_paper(lane, CALLS)
        for value in VALUES:
            for wrong in (value,) + tuples_around(value) + ((value,) * 4, (value, (), (((True,), 0),), paper[3])):
                self.assertIsNone(check_ring(lane, CALLS, wrong))
                self.assertIsNone(ring_patterns(lane, CALLS, wrong))
            for place in range(4):
                wrong = paper[:place] + (value,) + paper[place + 1:]
                self.assertIsNone(check_ring(lane, CALLS, wrong))
                wrong = paper[:place] + (paper[place][:-1] + (value,),) + paper[place + 1:]
                self.assertIsNone(check_ring(lane, CALLS, wrong) if not self.is_same(value, paper[place][-1]) else None)
        self.assertIsNone(check_ring(lane, CALLS, ((Awkward(), Awkward()),) + paper[1:]))
        for mean in ((True, 3), (4, True), (Awkward(), 3), (4, Awkward()), ('4', 3), (4, None), (4, 0), (1, 0), (4, -3)):
            self.assertIsNone(check_ring(lane, CALLS, (mean,) + paper[1:]))
        one = Lane(RISKY.with_policy(Policy('r', 3)), 'e')
        paper = ring_paper(one, CALLS)
        self.same(check_ring(one, CALLS, paper), (1, 1))
        for mean in ((True, 1), (1, True), (1, 0), (-1, -1)):
            self.assertIsNone(check_ring(one, CALLS, (mean,) + paper[1:]))

    def is_same(self, value, other):
        return value.__class__ is int and other.__class__ is int and value == other


if __name__ == '__main__':
    unittest.main()
