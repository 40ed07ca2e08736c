import random
import unittest

from helpers import VALUES, Awkward, Case
from reference import Reference
from samples import some_system
from mostcalls.engine import Game
from mostcalls.errors import InvalidChoice, InvalidMeasure, UnknownName
from mostcalls.machine import Run, play
from mostcalls.patterns import Pattern, all_patterns
from mostcalls.policies import Policy
from mostcalls.systems import System
from mostcalls.texts import parse_system

RISK = ('risk',)


def alone(*block, choices=None):
    """the run of a service that calls none."""
    return play(System([], [('a', block)]), Pattern('a', choices or {}))


def called(handler, policy, choices=None, kind='call', behind=()):
    """the run of b, which calls a by the policy; a has this block."""
    system = System([policy], [('a', handler), ('b', ((kind, 'a', policy.name),) + behind)])
    return play(system, Pattern('b', choices or {}))


def tries(run):
    """the spans but that of the entry, without the name of the service."""
    return [(path, begin, end, how, given) for path, _, begin, end, how, given in run.spans()[1:]]


def ends(run):
    return run.how, run.end


class PartsTest(Case):
    def test_empty_block(self):
        run = alone()
        self.same(run.spans(), [((), 'a', 0, 0, 'answered', None)])
        self.same([run.met(), run.worked(), run.faults, run.how, run.end, run.last], [[], [], 0, 'answered', 0, 0])

    def test_run(self):
        self.same(ends(alone(('run', 2, 5))), ('answered', 2))
        self.same(ends(alone(('run', 2, 5), choices={(0,): 4})), ('answered', 4))
        self.same(ends(alone(('run', 2, 5), ('run', 0, 9), choices={(0,): 5, (1,): 9})), ('answered', 14))

    def test_risk(self):
        self.same(ends(alone(('run', 2, 5), RISK)), ('answered', 2))
        self.same(ends(alone(('run', 2, 5), RISK, choices={(1,): 0})), ('answered', 2))
        run = alone(('run', 2, 5), RISK, ('run', 1, 1), choices={(1,): 1})
        self.same(ends(run), ('failed', 2))
        self.same(run.met(), [((0,), 2), ((1,), 1)])

    def test_maybe(self):
        block = (('maybe', (('run', 3, 9), RISK)), ('run', 1, 1))
        self.same(ends(alone(*block)), ('answered', 1))
        self.same(ends(alone(*block, choices={(0,): 0, (0, 0): 9})), ('answered', 1))
        self.same(ends(alone(*block, choices={(0,): 1})), ('answered', 4))
        run = alone(*block, choices={(0,): 1, (0, 0): 5, (0, 1): 1})
        self.same(ends(run), ('failed', 5))
        self.same(run.met(), [((0,), 1), ((0, 0), 5), ((0, 1), 1)])
        self.same(alone(*block).met(), [((0,), 0), ((1,), 1)])

    def test_both_ends_when_both_have(self):
        block = (('run', 1, 1), ('both', (('run', 2, 9),), (('run', 1, 9), ('run', 3, 9))), ('run', 1, 1))
        run = alone(*block)
        self.same(ends(run), ('answered', 6))
        self.same(run.worked(), [((), 'a', 0, 1), ((), 'a', 1, 2), ((), 'a', 1, 3), ((), 'a', 2, 5), ((), 'a', 5, 6)])
        self.same(run.met(), [((0,), 1), ((1, 0, 0), 2), ((1, 1, 0), 1), ((1, 1, 1), 3), ((2,), 1)])
        self.same(ends(alone(*block, choices={(1, 0, 0): 9})), ('answered', 11))
        self.same(ends(alone(('both', (), ()), ('run', 1, 1))), ('answered', 1))

    def test_both_fails_on_one_side(self):
        for first in (0, 1):
            fails, goes_on = (('run', 2, 2), RISK), (('run', 1, 1), ('run', 5, 5), RISK)
            sides = (fails, goes_on) if first == 0 else (goes_on, fails)
            run = alone(('both',) + sides, ('run', 1, 1), choices={(0, first, 1): 1})
            self.same(ends(run), ('failed', 2))
            self.same(run.worked(), [((), 'a', 0, 1), ((), 'a', 0, 2), ((), 'a', 1, 2)])
            self.same([path for path, _ in run.met()],
                      sorted([(0, first, 0), (0, first, 1), (0, 1 - first, 0), (0, 1 - first, 1)]))

    def test_both_fails_when_the_other_one_has_ended(self):
        run = alone(('both', (('run', 1, 1),), (('run', 4, 4), RISK)), choices={(0, 1, 1): 1})
        self.same(ends(run), ('failed', 4))

    def test_both_fail_at_one_tick(self):
        run = alone(('both', (('run', 2, 2), RISK), (('run', 2, 2), RISK)), choices={(0, 0, 1): 1, (0, 1, 1): 1})
        self.same(ends(run), ('failed', 2))
        self.same(run.faults, 2)

    def test_whoever_is_stopped_does_everything_of_the_tick(self):
        for first in (0, 1):
            other = (('run', 2, 2), ('run', 0, 3), RISK, ('maybe', (('run', 0, 0),)), ('run', 1, 4), ('run', 0, 0))
            sides = [other, other]
            sides[first] = (('run', 2, 2), RISK)
            mine = (0, 1 - first)
            run = alone(('both',) + tuple(sides), choices={(0, first, 1): 1, mine + (3,): 1, mine + (4,): 4})
            self.same(ends(run), ('failed', 2))
            self.same(run.worked(), [((), 'a', 0, 2), ((), 'a', 0, 2)] + [((), 'a', 2, 2)] * 3)
            self.same([pair for pair in run.met() if pair[0][:2] == mine],
                      [(mine + (0,), 2), (mine + (1,), 0), (mine + (2,), 0), (mine + (3,), 1), (mine + (3, 0), 0),
                       (mine + (4,), 4)])
            self.same(run.faults, 2)

    def test_a_part_that_fails_lets_the_blocks_around_it_fail(self):
        inner = ('both', (('maybe', (('run', 1, 1), RISK, ('run', 5, 5))),), (('run', 9, 9),))
        run = alone(('run', 2, 2), inner, ('run', 1, 1), choices={(1, 0, 0): 1, (1, 0, 0, 1): 1})
        self.same(ends(run), ('failed', 3))
        self.same(run.worked(), [((), 'a', 0, 2), ((), 'a', 2, 3), ((), 'a', 2, 3)])
        inner = ('maybe', (('both', (('run', 1, 1), RISK, ('run', 5, 5)), (('run', 9, 9),)), ('run', 1, 1)))
        run = alone(inner, ('run', 1, 1), choices={(0,): 1, (0, 0, 0, 1): 1})
        self.same(ends(run), ('failed', 1))
        self.same(run.worked(), [((), 'a', 0, 1), ((), 'a', 0, 1)])


class PausesTest(Case):
    def test_answered(self):
        run = called((('run', 3, 9),), Policy('p', 5), behind=(('run', 1, 1),))
        self.same(run.spans(), [((), 'b', 0, 4, 'answered', None), ((0, 0), 'a', 0, 3, 'answered', None)])

    def test_answered_at_the_limit(self):
        run = called((('run', 3, 9),), Policy('p', 5, tries=2), {(0, 0, 0): 5})
        self.same(tries(run), [((0, 0), 0, 5, 'answered', None)])
        self.same(ends(run), ('answered', 5))

    def test_failed_at_the_limit(self):
        run = called((('run', 3, 9), RISK), Policy('p', 5), {(0, 0, 0): 5, (0, 0, 1): 1})
        self.same(tries(run), [((0, 0), 0, 5, 'failed', None)])
        self.same(ends(run), ('failed', 5))

    def test_given_up_by_its_limit(self):
        run = called((('run', 3, 9),), Policy('p', 5), {(0, 0, 0): 6})
        self.same(tries(run), [((0, 0), 0, 6, 'answered', 5)])
        self.same(ends(run), ('failed', 5))
        self.same(run.last, 6)

    def test_failed_behind_its_limit(self):
        run = called((('run', 3, 9), RISK), Policy('p', 5), {(0, 0, 0): 6, (0, 0, 1): 1})
        self.same(tries(run), [((0, 0), 0, 6, 'failed', 5)])
        self.same(ends(run), ('failed', 5))

    def test_further_tries_behind_their_pauses(self):
        policy = Policy('p', 5, tries=3, pauses=(2, 4))
        fail, late = {(0, 0, 1): 1, (0, 1, 1): 1, (0, 2, 1): 1}, {(0, 0, 0): 9, (0, 1, 0): 9, (0, 2, 0): 9}
        block = (('run', 3, 9), RISK)
        self.same(tries(called(block, policy, fail)), [
            ((0, 0), 0, 3, 'failed', None), ((0, 1), 5, 8, 'failed', None), ((0, 2), 12, 15, 'failed', None)])
        self.same(ends(called(block, policy, fail)), ('failed', 15))
        self.same(tries(called(block, policy, late)), [
            ((0, 0), 0, 9, 'answered', 5), ((0, 1), 7, 16, 'answered', 12), ((0, 2), 16, 25, 'answered', 21)])
        self.same(ends(called(block, policy, late)), ('failed', 21))
        run = called(block, policy, {(0, 0, 1): 1, (0, 1, 0): 9})
        self.same(tries(run), [
            ((0, 0), 0, 3, 'failed', None), ((0, 1), 5, 14, 'answered', 10), ((0, 2), 14, 17, 'answered', None)])
        self.same(ends(run), ('answered', 17))
        self.same(ends(called(block, policy, {(0, 0, 1): 1})), ('answered', 8))

    def test_pauses_of_0(self):
        run = called((RISK, ('run', 1, 1)), Policy('p', 5, tries=3), {(0, 0, 0): 1, (0, 1, 0): 1})
        self.same(tries(run), [
            ((0, 0), 0, 0, 'failed', None), ((0, 1), 0, 0, 'failed', None), ((0, 2), 0, 1, 'answered', None)])
        run = called((RISK,), Policy('p', 5, tries=3), {(0, 0, 0): 1, (0, 1, 0): 1, (0, 2, 0): 1})
        self.same(ends(run), ('failed', 0))

    def test_want_goes_on(self):
        run = called((RISK,), Policy('p', 5), {(0, 0, 0): 1}, kind='want', behind=(('run', 2, 2),))
        self.same(ends(run), ('answered', 2))
        self.same(tries(run), [((0, 0), 0, 0, 'failed', None)])
        self.same(ends(called((('run', 9, 9),), Policy('p', 5, tries=2), kind='want')), ('answered', 10))
        run = called((RISK,), Policy('p', 5), {(0, 0, 0): 1}, behind=(('run', 2, 2),))
        self.same(ends(run), ('failed', 0))

    def test_lost(self):
        policy = Policy('p', 5, tries=2, pauses=(1,), lossy=True)
        run = called((('run', 3, 9),), policy, {(0, 0): 1})
        self.same(tries(run), [((0, 0), 0, 3, 'answered', 5), ((0, 1), 6, 9, 'answered', None)])
        self.same(ends(run), ('answered', 9))
        self.same(run.met(), [((0, 0), 1), ((0, 0, 0), 3), ((0, 1), 0), ((0, 1, 0), 3)])
        self.same(run.faults, 1)
        run = called((('run', 3, 9), RISK), policy, {(0, 0): 1, (0, 0, 1): 1, (0, 1): 1})
        self.same(tries(run), [((0, 0), 0, 3, 'failed', 5), ((0, 1), 6, 9, 'answered', 11)])
        self.same(ends(run), ('failed', 11))
        self.same(run.last, 11)

    def test_a_loss_is_a_choice_only_if_the_policy_is_lossy(self):
        run = called((('run', 3, 9),), Policy('p', 5), {(0, 0): 1})
        self.same(run.met(), [((0, 0, 0), 3)])
        self.same([ends(run), run.faults], [('answered', 3), 0])
        self.same(called((), Policy('p', 5, lossy=True)).met(), [((0, 0), 0)])
        self.same(called((('run', 9, 9),), Policy('p', 5, lossy=True), {(0, 0): 1}).faults, 1)


class EarlyTest(Case):
    BLOCK = (('run', 0, 20), RISK)

    def early(self, limit, many, early, lasts, fails=(), **more):
        choices = {(0, number, 0): ticks for number, ticks in enumerate(lasts)}
        choices.update({(0, number, 1): 1 for number in fails})
        return called(self.BLOCK, Policy('p', limit, tries=many, early=early, **more), choices)

    def test_tries_begin_without_waiting(self):
        run = self.early(9, 3, 2, (5, 9, 9))
        self.same(tries(run), [
            ((0, 0), 0, 5, 'answered', None), ((0, 1), 2, 11, 'answered', 5), ((0, 2), 4, 13, 'answered', 5)])
        self.same(ends(run), ('answered', 5))

    def test_an_answer_ahead_of_its_tick_keeps_a_try_from_beginning(self):
        self.same(tries(self.early(9, 3, 2, (1, 9, 9))), [((0, 0), 0, 1, 'answered', None)])
        self.same(tries(self.early(9, 3, 2, (3, 9, 9))), [
            ((0, 0), 0, 3, 'answered', None), ((0, 1), 2, 11, 'answered', 3)])
        self.same(tries(self.early(9, 2, 1, (0, 9))), [((0, 0), 0, 0, 'answered', None)])

    def test_an_answer_at_its_tick_does_not(self):
        run = self.early(9, 3, 2, (2, 9, 9))
        self.same(tries(run), [((0, 0), 0, 2, 'answered', None), ((0, 1), 2, 11, 'answered', 2)])
        self.same(ends(run), ('answered', 2))
        run = self.early(9, 3, 2, (2, 0, 9))
        self.same(tries(run), [((0, 0), 0, 2, 'answered', None), ((0, 1), 2, 2, 'answered', None)])
        run = self.early(9, 3, 2, (9, 2, 0), fails=(2,))
        self.same(tries(run), [
            ((0, 0), 0, 9, 'answered', 4), ((0, 1), 2, 4, 'answered', None), ((0, 2), 4, 4, 'failed', None)])

    def test_two_answers_at_one_tick(self):
        run = self.early(9, 3, 2, (6, 4, 9))
        self.same(tries(run), [
            ((0, 0), 0, 6, 'answered', None), ((0, 1), 2, 6, 'answered', None), ((0, 2), 4, 13, 'answered', 6)])

    def test_a_later_try_can_answer_first(self):
        run = self.early(9, 3, 2, (9, 2, 9))
        self.same(tries(run), [
            ((0, 0), 0, 9, 'answered', 4), ((0, 1), 2, 4, 'answered', None), ((0, 2), 4, 13, 'answered', 4)])

    def test_failed_at_the_tick_of_the_answer(self):
        run = self.early(9, 2, 2, (6, 4), fails=(1,))
        self.same(tries(run), [((0, 0), 0, 6, 'answered', None), ((0, 1), 2, 6, 'failed', None)])

    def test_a_failure_does_not_let_the_next_one_begin(self):
        run = self.early(9, 3, 4, (1, 2, 3), fails=(0, 1, 2))
        self.same(tries(run), [
            ((0, 0), 0, 1, 'failed', None), ((0, 1), 4, 6, 'failed', None), ((0, 2), 8, 11, 'failed', None)])
        self.same(ends(run), ('failed', 11))

    def test_the_call_fails_when_all_have(self):
        run = self.early(6, 3, 1, (5, 1, 1), fails=(0, 1, 2))
        self.same(ends(run), ('failed', 5))
        run = self.early(6, 3, 1, (20, 1, 1), fails=(1, 2))
        self.same(tries(run), [
            ((0, 0), 0, 20, 'answered', 6), ((0, 1), 1, 2, 'failed', None), ((0, 2), 2, 3, 'failed', None)])
        self.same(ends(run), ('failed', 6))

    def test_limits_of_early_tries(self):
        run = self.early(3, 3, 2, (20, 3, 20))
        self.same(tries(run), [
            ((0, 0), 0, 20, 'answered', 3), ((0, 1), 2, 5, 'answered', None), ((0, 2), 4, 24, 'answered', 5)])
        run = self.early(3, 2, 5, (20, 20))
        self.same(tries(run), [((0, 0), 0, 20, 'answered', 3), ((0, 1), 5, 25, 'answered', 8)])
        self.same(ends(run), ('failed', 8))

    def test_lost_answers_do_not_end_the_call(self):
        system = System([Policy('p', 4, tries=2, early=1, lossy=True)], [('a', (('run', 0, 9),)), ('b', (('call', 'a', 'p'),))])
        run = play(system, Pattern('b', {(0, 0): 1, (0, 0, 0): 2, (0, 1, 0): 2}))
        self.same(tries(run), [((0, 0), 0, 2, 'answered', 3), ((0, 1), 1, 3, 'answered', None)])
        run = play(system, Pattern('b', {(0, 0): 1, (0, 1): 1}))
        self.same(tries(run), [((0, 0), 0, 0, 'answered', 4), ((0, 1), 1, 1, 'answered', 5)])
        self.same(ends(run), ('failed', 5))

    def test_given_up_by_the_answer_and_stopped(self):
        run = self.early(9, 3, 2, (5, 9, 9), ending=('stop', 3))
        self.same(tries(run), [
            ((0, 0), 0, 5, 'answered', None), ((0, 1), 2, 8, 'stopped', 5), ((0, 2), 4, 8, 'stopped', 5)])
        run = self.early(9, 3, 2, (5, 9, 9), ending=('stop', 0))
        self.same(tries(run)[1:], [((0, 1), 2, 5, 'stopped', 5), ((0, 2), 4, 5, 'stopped', 5)])
        run = self.early(9, 3, 2, (5, 9, 9), ending=('deadline',))
        self.same(tries(run)[1:], [((0, 1), 2, 11, 'answered', 5), ((0, 2), 4, 13, 'answered', 5)])
        run = self.early(9, 3, 2, (5, 10, 9), ending=('deadline',))
        self.same(tries(run)[1:], [((0, 1), 2, 11, 'stopped', 5), ((0, 2), 4, 13, 'answered', 5)])


class EndingsTest(Case):
    def test_go(self):
        run = called((('run', 9, 9), ('run', 9, 9)), Policy('p', 5))
        self.same(tries(run), [((0, 0), 0, 18, 'answered', 5)])

    def test_stop(self):
        for delay in (0, 1, 3):
            run = called((('run', 9, 9),), Policy('p', 5, ending=('stop', delay)))
            self.same(tries(run), [((0, 0), 0, 5 + delay, 'stopped', 5)])
            self.same(run.worked(), [((0, 0), 'a', 0, 5 + delay)])
            self.same(ends(run), ('failed', 5))
            self.same(run.last, 5 + delay)

    def test_ended_ahead_of_the_stop_or_at_it(self):
        for delay, how in ((3, 'stopped'), (4, 'answered'), (5, 'answered')):
            run = called((('run', 9, 9),), Policy('p', 5, ending=('stop', delay)))
            self.same(tries(run), [((0, 0), 0, min(9, 5 + delay), how, 5)])
        run = called((('run', 9, 9), RISK), Policy('p', 5, ending=('stop', 4)), {(0, 0, 1): 1})
        self.same(tries(run), [((0, 0), 0, 9, 'failed', 5)])

    def test_everything_of_the_tick_of_a_stop(self):
        block = (('run', 5, 9), ('run', 0, 3), ('maybe', (('run', 0, 0),)), ('run', 1, 4), RISK)
        run = called(block, Policy('p', 3, ending=('stop', 2)), {(0, 0, 2): 1})
        self.same(tries(run), [((0, 0), 0, 5, 'stopped', 3)])
        self.same(run.worked(), [((0, 0), 'a', 0, 5), ((0, 0), 'a', 5, 5), ((0, 0), 'a', 5, 5), ((0, 0), 'a', 5, 5)])
        self.same(run.met(), [((0, 0, 0), 5), ((0, 0, 1), 0), ((0, 0, 2), 1), ((0, 0, 2, 0), 0), ((0, 0, 3), 1)])

    def test_deadline(self):
        run = called((('run', 9, 9),), Policy('p', 5, tries=2, pauses=(1,), ending=('deadline',)))
        self.same(tries(run), [((0, 0), 0, 5, 'stopped', 5), ((0, 1), 6, 11, 'stopped', 11)])
        run = called((('run', 5, 5),), Policy('p', 5, ending=('deadline',)))
        self.same(tries(run), [((0, 0), 0, 5, 'answered', None)])
        run = called((('run', 5, 5), ('run', 1, 1)), Policy('p', 5, ending=('deadline',)))
        self.same(run.worked(), [((0, 0), 'a', 0, 5), ((0, 0), 'a', 5, 5)])

    def chain(self, inner, outer, choices=None, middle=(('run', 1, 1), ('call', 'a', 'i')), last=(('run', 9, 9),)):
        system = System([inner, outer], [('a', last), ('b', middle), ('c', (('call', 'b', 'o'),))])
        return play(system, Pattern('c', choices or {}))

    def test_the_deadline_of_the_calling_handler_run(self):
        run = self.chain(Policy('i', 8, ending=('deadline',)), Policy('o', 4, ending=('deadline',)))
        self.same(run.spans(), [
            ((), 'c', 0, 4, 'failed', None), ((0, 0), 'b', 0, 4, 'stopped', 4), ((0, 0, 1, 0), 'a', 1, 4, 'stopped', 4)])
        run = self.chain(Policy('i', 2, ending=('deadline',)), Policy('o', 4, ending=('deadline',)))
        self.same(run.spans()[1:], [
            ((0, 0), 'b', 0, 3, 'failed', None), ((0, 0, 1, 0), 'a', 1, 3, 'stopped', 3)])
        run = self.chain(Policy('i', 3, ending=('deadline',)), Policy('o', 4, ending=('deadline',)))
        self.same(run.spans()[1:], [
            ((0, 0), 'b', 0, 4, 'failed', None), ((0, 0, 1, 0), 'a', 1, 4, 'stopped', 4)])

    def test_only_handler_runs_begun_with_this_ending_have_one(self):
        run = self.chain(Policy('i', 8), Policy('o', 4, ending=('deadline',)))
        self.same(run.spans()[1:], [
            ((0, 0), 'b', 0, 4, 'stopped', 4), ((0, 0, 1, 0), 'a', 1, 10, 'answered', 4)])
        run = self.chain(Policy('i', 8, ending=('deadline',)), Policy('o', 4))
        self.same(run.spans()[1:], [
            ((0, 0), 'b', 0, 9, 'failed', 4), ((0, 0, 1, 0), 'a', 1, 9, 'stopped', 9)])
        run = self.chain(Policy('i', 8, ending=('deadline',)), Policy('o', 4, ending=('stop', 1)))
        self.same(run.spans()[1:], [
            ((0, 0), 'b', 0, 5, 'stopped', 4), ((0, 0, 1, 0), 'a', 1, 9, 'stopped', 5)])
        run = self.chain(Policy('i', 8, ending=('stop', 2)), Policy('o', 4, ending=('deadline',)))
        self.same(run.spans()[1:], [
            ((0, 0), 'b', 0, 4, 'stopped', 4), ((0, 0, 1, 0), 'a', 1, 6, 'stopped', 4)])

    def test_a_deadline_goes_through_several_handler_runs(self):
        inner, outer = Policy('i', 8, ending=('deadline',)), Policy('o', 4, ending=('deadline',))
        system = System([inner, outer, Policy('g', 8)], [
            ('a', (('run', 9, 9),)), ('b', (('call', 'a', 'i'),)), ('c', (('run', 1, 1), ('call', 'b', 'i'))),
            ('d', (('call', 'c', 'o'),)), ('e', (('want', 'b', 'g'), ('call', 'c', 'o')))])
        run = play(system, Pattern('d', {}))
        self.same(run.spans()[1:], [
            ((0, 0), 'c', 0, 4, 'stopped', 4), ((0, 0, 1, 0), 'b', 1, 4, 'stopped', 4),
            ((0, 0, 1, 0, 0, 0), 'a', 1, 4, 'stopped', 4)])
        run = play(system, Pattern('e', {}))
        self.same(run.spans()[1:3], [((0, 0), 'b', 0, 8, 'failed', None), ((0, 0, 0, 0), 'a', 0, 8, 'stopped', 8)])

    def test_a_call_in_a_block_that_is_stopped_is_given_up(self):
        run = self.chain(Policy('i', 8), Policy('o', 4, ending=('stop', 2)))
        self.same(run.spans()[1:], [((0, 0), 'b', 0, 6, 'stopped', 4), ((0, 0, 1, 0), 'a', 1, 10, 'answered', 6)])
        run = self.chain(Policy('i', 8, ending=('stop', 1)), Policy('o', 4, ending=('stop', 2)))
        self.same(run.spans()[1:], [((0, 0), 'b', 0, 6, 'stopped', 4), ((0, 0, 1, 0), 'a', 1, 7, 'stopped', 6)])
        run = self.chain(Policy('i', 8, ending=('stop', 0)), Policy('o', 4, ending=('stop', 0)))
        self.same(run.spans()[1:], [((0, 0), 'b', 0, 4, 'stopped', 4), ((0, 0, 1, 0), 'a', 1, 4, 'stopped', 4)])

    def test_a_call_in_a_pause_makes_no_further_try(self):
        inner = Policy('i', 2, tries=2, pauses=(8,))
        run = self.chain(inner, Policy('o', 6, ending=('stop', 0)))
        self.same(run.spans()[1:], [((0, 0), 'b', 0, 6, 'stopped', 6), ((0, 0, 1, 0), 'a', 1, 10, 'answered', 3)])
        run = self.chain(inner, Policy('o', 11, ending=('stop', 0)))
        self.same(run.spans()[1:], [
            ((0, 0), 'b', 0, 11, 'stopped', 11), ((0, 0, 1, 0), 'a', 1, 10, 'answered', 3),
            ((0, 0, 1, 1), 'a', 11, 20, 'answered', 11)])

    def test_early_tries_behind_a_stop_do_not_begin(self):
        for limit, many in ((3, 1), (4, 2), (6, 2), (7, 3)):
            run = self.chain(Policy('i', 9, tries=3, early=3), Policy('o', limit, ending=('stop', 0)))
            self.same([span[5] for span in run.spans()[2:]], [limit] * many)

    def test_tries_that_take_no_time_at_the_tick_of_a_stop(self):
        inner = Policy('i', 5, tries=3)
        choices = {(0, 0, 1, 0, 0): 1, (0, 0, 1, 1, 0): 1}
        run = self.chain(inner, Policy('o', 1, ending=('stop', 0)), choices, last=(RISK, ('run', 0, 9)),
                         middle=(('run', 1, 1), ('call', 'a', 'i'), ('call', 'a', 'i'), ('run', 1, 1)))
        self.same(run.spans()[1:], [
            ((0, 0), 'b', 0, 1, 'stopped', 1),
            ((0, 0, 1, 0), 'a', 1, 1, 'failed', None), ((0, 0, 1, 1), 'a', 1, 1, 'failed', None),
            ((0, 0, 1, 2), 'a', 1, 1, 'answered', None), ((0, 0, 2, 0), 'a', 1, 1, 'answered', None)])
        choices = {(0, 0, 1, 0, 0): 1, (0, 0, 1, 1, 0): 0, (0, 0, 1, 1, 1): 9}
        run = self.chain(inner, Policy('o', 1, ending=('stop', 0)), choices, last=(RISK, ('run', 0, 9)))
        self.same(run.spans()[2:], [
            ((0, 0, 1, 0), 'a', 1, 1, 'failed', None), ((0, 0, 1, 1), 'a', 1, 10, 'answered', 1)])

    def test_a_handler_run_ends_at_the_tick_of_its_stop(self):
        run = self.chain(Policy('i', 3), Policy('o', 2, ending=('stop', 2)), last=(('run', 3, 3),))
        self.same(run.spans()[1:], [((0, 0), 'b', 0, 4, 'answered', 2), ((0, 0, 1, 0), 'a', 1, 4, 'answered', None)])
        run = self.chain(Policy('i', 3), Policy('o', 2, ending=('stop', 2)))
        self.same(run.spans()[1:], [((0, 0), 'b', 0, 4, 'failed', 2), ((0, 0, 1, 0), 'a', 1, 10, 'answered', 4)])

    def test_given_up_at_the_limit_at_the_tick_of_a_stop(self):
        # The limit of the inner try and the stop of its caller come together: the next try begins and is given up.
        run = self.chain(Policy('i', 3, tries=2), Policy('o', 2, ending=('stop', 2)))
        self.same(run.spans()[1:], [
            ((0, 0), 'b', 0, 4, 'stopped', 2), ((0, 0, 1, 0), 'a', 1, 10, 'answered', 4),
            ((0, 0, 1, 1), 'a', 4, 13, 'answered', 4)])

    def test_a_both_gives_up_the_calls_of_its_other_block(self):
        for ending, end, how in ((('go',), 9, 'answered'), (('stop', 0), 2, 'stopped'), (('stop', 3), 5, 'stopped'),
                                 (('deadline',), 8, 'stopped')):
            block = (('both', (('call', 'a', 'p'),), (('run', 2, 2), RISK)), ('run', 1, 1))
            system = System([Policy('p', 8, ending=ending)], [('a', (('run', 9, 9),)), ('b', block)])
            run = play(system, Pattern('b', {(0, 1, 1): 1}))
            self.same(run.spans(), [((), 'b', 0, 2, 'failed', None), ((0, 0, 0, 0), 'a', 0, end, how, 2)])

    def test_the_entry_is_never_given_up(self):
        run = alone(*[('run', 20, 20)] * 12)
        self.same(run.spans(), [((), 'a', 0, 240, 'answered', None)])


class RunTest(Case):
    TEXT = ('policy p limit 2 tries 2 pauses 0 lossy go\npolicy s limit 3 tries 1 stop 1\nservice a\n  run 1 4\n  risk\nend\n'
            'service b\n  run 0 2\n  call a p\nend\nservice c\n  want b s\n  maybe\n    run 3 3\n  end\nend')

    def run_of(self, choices=None, entry='c'):
        return play(parse_system(self.TEXT), Pattern(entry, choices or {}))

    def test_the_example_of_the_document(self):
        system = parse_system('policy p limit 2 tries 2 stop 1\nservice a\n  run 1 9\nend\nservice b\n  call a p\nend')
        run = play(system, Pattern('b', {(0, 0, 0): 5}))
        self.same((run.spans()[1:], run.how, run.end, run.measured(('nobody', 'a'))),
                  ([((0, 0), 'a', 0, 3, 'stopped', 2), ((0, 1), 'a', 2, 3, 'answered', None)], 'answered', 3, 1))
        self.assertEqual(play(system=system, pattern=Pattern('b', {(0, 0, 0): 5})), run)

    def test_all_that_is_told(self):
        run = self.run_of({(0, 0, 0): 1, (0, 0, 1, 0): 1, (0, 0, 1, 1, 0): 4, (1,): 1})
        self.assertIs(type(run), Run)
        # b begins at 0; its first try of a at 1 is lost and given up at 3, as b is; b and its call are stopped at 4.
        self.same(run.spans(), [
            ((), 'c', 0, 6, 'answered', None), ((0, 0), 'b', 0, 4, 'stopped', 3),
            ((0, 0, 1, 0), 'a', 1, 2, 'answered', 3), ((0, 0, 1, 1), 'a', 3, 7, 'answered', 4)])
        self.same(run.worked(), [((), 'c', 3, 6), ((0, 0), 'b', 0, 1), ((0, 0, 1, 0), 'a', 1, 2), ((0, 0, 1, 1), 'a', 3, 7)])
        self.same(run.met(), [
            ((0, 0, 0), 1), ((0, 0, 1, 0), 1), ((0, 0, 1, 0, 0), 1), ((0, 0, 1, 0, 1), 0), ((0, 0, 1, 1), 0),
            ((0, 0, 1, 1, 0), 4), ((0, 0, 1, 1, 1), 0), ((1,), 1), ((1, 0), 3)])
        self.same([run.how, run.end, run.last, run.faults, len(run)], ['answered', 6, 7, 3, 4])
        self.same([run.unwanted(path) for path, *_ in run], [None, 3, 3, 3])
        self.same(run.unwanted(path=(0, 0)), 3)

    def test_length_and_iteration(self):
        run = self.run_of({(0, 0, 0): 1, (0, 0, 1, 0): 1})
        self.assertEqual(len(run), len(run.spans()))
        self.same(list(run), run.spans())
        self.same([span for span in run], run.spans())
        self.assertEqual(len(self.run_of(entry='a')), 1)

    def test_what_is_told_can_be_changed(self):
        run = self.run_of({(0, 0, 0): 1})
        for get in (run.spans, run.met, run.worked):
            ahead = list(get())
            get().append(None)
            get().reverse()
            get().clear()
            self.same(get(), ahead)
        self.same([len(run), list(run)], [len(run.spans()), run.spans()])
        self.same(run.measured(('calls', 'a')), 1)

    def test_properties_are_not_set(self):
        run = self.run_of()
        for field in ('how', 'end', 'last', 'faults'):
            with self.assertRaises(AttributeError):
                setattr(run, field, getattr(run, field))

    def test_spans_are_sorted_by_path(self):
        system = System([Policy('p', 20, tries=3, early=1)], [('a', (('run', 5, 9),)), ('b', (
            ('both', (('call', 'a', 'p'),), (('call', 'a', 'p'),)), ('call', 'a', 'p')))])
        run = play(system, Pattern('b', {(0, 0, 0, 0, 0): 9}))
        paths = [span[0] for span in run]
        self.assertEqual(paths, sorted(paths))
        self.assertEqual(paths[0], ())
        self.assertEqual(run.met(), sorted(run.met()))
        self.assertEqual(run.worked(), sorted(run.worked()))
        self.assertEqual(len(set(paths)), len(paths))

    def test_equal_if_the_spans_are(self):
        self.assertIs(self.run_of() == self.run_of(), True)
        self.assertIs(self.run_of() != self.run_of(), False)
        self.assertIs(self.run_of() == self.run_of({(0, 0, 0): 1}), False)
        self.assertIs(self.run_of() != self.run_of({(0, 0, 0): 1}), True)
        self.assertIs(alone(('run', 2, 3)) == alone(('run', 1, 2), choices={(0,): 2}), True)
        self.assertIs(alone() == play(System([], [('b', ())]), Pattern('b', {})), False)
        run = self.run_of()
        for value in VALUES + (run.spans(), tuple(run.spans())):
            self.assertIs(run == value, False)
            self.assertIs(run != value, True)

    def test_faults(self):
        self.same(alone(('run', 2, 5)).faults, 0)
        self.same(alone(('run', 2, 5), choices={(0,): 2}).faults, 0)
        self.same(alone(('run', 2, 5), choices={(0,): 3}).faults, 1)
        self.same(alone(('run', 2, 5), choices={(0,): 5}).faults, 1)
        self.same(alone(('maybe', ()), choices={(0,): 1}).faults, 0)
        self.same(alone(RISK, choices={(0,): 1}).faults, 1)
        self.same(alone(RISK, ('run', 2, 5), choices={(0,): 1, (1,): 5}).faults, 1)
        self.same(alone(('run', 0, 5), ('run', 3, 5), RISK, choices={(0,): 1, (1,): 4, (2,): 1}).faults, 3)
        self.same(self.run_of({(0, 0, 1, 0): 1, (0, 0, 1, 1): 1}).faults, 2)
        # A run that was chosen longer and is stopped ahead of its least length is a fault all the same.
        block = ('both', (RISK,), (('run', 2, 9),))
        self.same(alone(block, choices={(0, 0, 0): 1, (0, 1, 0): 3}).faults, 2)

    def test_unwanted(self):
        run = self.run_of({(0, 0, 0): 1, (0, 0, 1, 0): 1})
        for value in VALUES + ((0,), (1,), (0, 1), (0, 0, 1), (0, 0, 1, 2), (False, False), (0, False), [0, 0], (0, 0, 0)):
            if not (isinstance(value, tuple) and len(value) == 0):
                self.raises(InvalidChoice, {'path': value}, run.unwanted, value)
        self.assertIsNone(run.unwanted(()))

    def test_unwanted_since_the_caller_is(self):
        policies = [Policy('s', 2), Policy('l', 20)]
        system = System(policies, [('a', (('run', 3, 3),)), ('b', (('run', 5, 5), ('call', 'a', 'l'), ('call', 'a', 's'))),
                                   ('c', (('want', 'b', 's'), ('want', 'b', 'l')))])
        run = play(system, Pattern('c', {}))
        self.same({span[0]: (span[5], run.unwanted(span[0])) for span in run}, {
            (): (None, None),
            (0, 0): (2, 2), (0, 0, 1, 0): (None, 2), (0, 0, 2, 0): (10, 2),
            (1, 0): (None, None), (1, 0, 1, 0): (None, None), (1, 0, 2, 0): (12, 12)})
        self.same(run.measured(('nobody', 'a')), 3 + 3 + 1)
        self.same(run.measured(('nobody', 'b')), 3)
        self.same(run.measured(('nobody', 'c')), 0)

    def test_given_up_ahead_of_its_caller(self):
        policies = [Policy('s', 2), Policy('l', 4)]
        system = System(policies, [('a', (('run', 9, 9),)), ('b', (('want', 'a', 's'), ('run', 9, 9))),
                                   ('c', (('want', 'b', 'l'),))])
        run = play(system, Pattern('c', {}))
        self.same([run.unwanted(span[0]) for span in run], [None, 4, 2])
        self.same([run.measured(('nobody', name)) for name in 'abc'], [7, 7, 0])


class MeasuresTest(Case):
    SYSTEM = System([Policy('p', 4, tries=2, ending=('stop', 3)), Policy('q', 20, tries=2, early=3)], [
        ('a', (('run', 2, 6), RISK, ('run', 1, 5))),
        ('b', (('run', 1, 1), ('both', (('want', 'a', 'p'),), (('run', 0, 20),)))),
        ('c', (('want', 'b', 'q'), ('call', 'a', 'p'), ('run', 5, 5))),
    ])

    def test_each_measure(self):
        run = play(self.SYSTEM, Pattern('c', {(0, 0, 1, 0, 0, 0, 0): 6, (1, 0, 0): 6}))
        # The first b calls a at 1, given up at 5, and at 5; both end at 8. The second b begins at 3, calls a at 4, and
        # is answered at 7, when the first one is given up. Then a is called at 7, given up at 11, and at 11.
        self.same([span[0] for span in run],
                  [(), (0, 0), (0, 0, 1, 0, 0, 0), (0, 0, 1, 0, 0, 1), (0, 1), (0, 1, 1, 0, 0, 0), (1, 0), (1, 1)])
        told = {span[0]: span[2:] for span in run}
        self.same(told[(0, 0)], (0, 8, 'answered', 7))
        self.same(told[(0, 0, 1, 0, 0, 0)], (1, 8, 'answered', 5))
        self.same(told[(0, 0, 1, 0, 0, 1)], (5, 8, 'answered', None))
        self.same(told[(0, 1)], (3, 7, 'answered', None))
        self.same(told[(0, 1, 1, 0, 0, 0)], (4, 7, 'answered', None))
        self.same(told[(1, 0)], (7, 14, 'answered', 11))
        self.same(told[(1, 1)], (11, 14, 'answered', None))
        self.same(told[()], (0, 19, 'answered', None))
        self.same([run.measured(('calls', name)) for name in 'abc'], [5, 2, 0])
        self.same([run.measured(('work', name)) for name in 'abc'],
                  [(6 + 1) + (2 + 1) + (2 + 1) + (6 + 1) + (2 + 1), 1 + 1, 5])
        self.same([run.measured(('nobody', name)) for name in 'abc'], [(2 + 1) + 1 + 3, 0, 0])
        self.same(run.measured(('last',)), 19)
        self.same(run.measured(measure=('calls', 'a')), 5)
        self.same(run.faults, 2)

    def test_the_greatest_end_of_all(self):
        run = called((('run', 9, 9),), Policy('p', 5))
        self.same([run.end, run.last, run.measured(('last',))], [5, 9, 9])
        run = called((('run', 2, 9),), Policy('p', 5), behind=(('run', 1, 1),))
        self.same([run.end, run.last, run.measured(('last',))], [3, 3, 3])

    def test_the_entry_is_no_call(self):
        run = alone(('run', 3, 3))
        self.same([run.measured(('calls', 'a')), run.measured(('work', 'a')), run.measured(('nobody', 'a'))], [0, 3, 0])

    def test_services_that_are_not_called(self):
        system = self.SYSTEM
        run = play(system, Pattern('a', {(0,): 4}))
        self.same([run.measured((kind, 'c')) for kind in ('calls', 'work', 'nobody')], [0, 0, 0])
        self.same(run.measured(('work', 'a')), 5)

    def test_a_third_element(self):
        run = play(self.SYSTEM, Pattern('c', {(0, 0, 1, 0, 0, 0, 0): 6, (1, 0, 0): 6}))
        for kind in ('calls', 'work', 'nobody'):
            for name in 'abc':
                number = run.measured((kind, name))
                for most in range(7):
                    wanted = tuple(None if faults < 2 else number for faults in range(most + 1))
                    self.same(run.measured((kind, name, most)), wanted)
        run = alone(('run', 3, 3))
        self.same(run.measured(('work', 'a', 0)), (3,))
        self.same(run.measured(('work', 'a', 6)), (3,) * 7)
        run = alone(('run', 3, 4), choices={(0,): 4})
        self.same(run.measured(('work', 'a', 0)), (None,))
        self.same(run.measured(('work', 'a', 2)), (None, 4, 4))

    def test_ticks_for_nobody(self):
        def nobody(*block, limit=5, choices=None, **more):
            return called(block, Policy('p', limit, **more), choices).measured(('nobody', 'a'))

        self.same(nobody(('run', 5, 9)), 0)
        self.same(nobody(('run', 6, 9)), 1)
        self.same(nobody(('run', 3, 3), ('run', 4, 4), ('run', 5, 5)), 2 + 5)
        self.same(nobody(('run', 3, 3), ('run', 9, 9), ending=('stop', 2)), 2)
        self.same(nobody(('run', 9, 9), ending=('deadline',)), 0)
        self.same(nobody(('run', 3, 3), lossy=True, choices={(0, 0): 1}), 0)
        self.same(nobody(('both', (('run', 7, 7),), (('run', 6, 6), ('run', 3, 3)))), 2 + 1 + 3)
        self.same(nobody(('run', 9, 9), tries=2, early=1), 4 + 4 + 0)
        self.same(nobody(('run', 1, 9), tries=2, early=1, choices={(0, 1, 0): 9}), 9)

    def test_invalid_measures(self):
        run = play(self.SYSTEM, Pattern('c', {}))
        for kind in ('calls', 'work', 'nobody'):
            for value in VALUES + ('d', 'p', '', 'last', ['a']):
                if not (isinstance(value, str) and value == 'a'):
                    self.raises(InvalidMeasure, {'value': (kind, value)}, run.measured, (kind, value))
            for value in (-1, 7, True, False, None, '1', (0,), 10 ** 29, Awkward()):
                self.raises(InvalidMeasure, {'value': (kind, 'a', value)}, run.measured, (kind, 'a', value))
            for value in ((kind,), (kind, 'a', 1, 1), [kind, 'a'], kind, (kind, 'd', 1), (kind, ('a',)), (kind, 'a', None)):
                self.raises(InvalidMeasure, {'value': value}, run.measured, value)
        for value in VALUES + ((), ('last', 'a'), ('last', 1), ('last', 'a', 1), ['last'], 'last', ('Last',), ('answer',),
                               ('call', 'a'), ('works', 'a'), ('', 'a'), (None, 'a'), (Awkward(), 'a'), (['calls'], 'a'),
                               ('a', 'calls'), (('last',),), (b'last',)):
            self.raises(InvalidMeasure, {'value': value}, run.measured, value)


class ErrorsTest(Case):
    def test_unknown_names(self):
        system = System([Policy('p', 3)], [('a', (('run', 1, 2),))])
        for name in ('b', 'p', 'aa'):
            self.raises(UnknownName, {'value': name}, play, system, Pattern(name, {(0,): 9}))

    def impossible(self, path, block, choices, policy=Policy('p', 5, tries=2)):
        system = System([policy], [('a', (('run', 1, 3), RISK)), ('b', block)])
        self.raises(InvalidChoice, {'path': path}, play, system, Pattern('b', choices))

    def test_impossible_choices(self):
        for choice in (0, 1, 6, 99):
            self.impossible((0,), (('run', 2, 5),), {(0,): choice})
        for choice in (2, 3, 10 ** 29):
            self.impossible((0,), (RISK,), {(0,): choice})
            self.impossible((0,), (('maybe', ()),), {(0,): choice})
            self.impossible((0, 0), (('call', 'a', 'p'),), {(0, 0): choice}, Policy('p', 5, lossy=True))
            self.impossible((0, 0, 1), (('call', 'a', 'p'),), {(0, 0, 1): choice})
        self.impossible((0, 1, 0), (('both', (), (('run', 2, 2),)),), {(0, 1, 0): 3})
        self.impossible((0, 0), (('maybe', (('run', 1, 4),)),), {(0,): 1, (0, 0): 0})
        self.impossible((0, 1, 0), (('call', 'a', 'p'),), {(0, 0, 1): 1, (0, 1, 0): 4})

    def test_the_least_path(self):
        block = (('run', 1, 4), ('call', 'a', 'p'), ('run', 2, 2))
        self.impossible((0,), block, {(2,): 0, (1, 0, 0): 9, (0,): 5})
        self.impossible((1, 0, 0), block, {(2,): 0, (1, 0, 0): 9})
        self.impossible((1, 0, 0), block, {(2,): 0, (1, 0, 0): 9, (1, 0, 1): 5})
        self.impossible((0, 0, 0), (('both', (('run', 3, 3),), (('run', 1, 1),)),), {(0, 1, 0): 9, (0, 0, 0): 9})
        # The handler run with the lesser path goes on longer.
        block = (('want', 'a', 'p'), ('run', 2, 2))
        self.impossible((0, 0, 1), block, {(0, 0, 0): 3, (0, 0, 1): 2, (1,): 1}, Policy('p', 2))

    def test_the_least_choice_stands_in_place_of_each_impossible_one(self):
        # With 9 ticks the first try would be given up, and the second one would meet its own choice.
        self.impossible((0, 0, 0), (('call', 'a', 'p'),), {(0, 0, 0): 9, (0, 1, 0): 9})
        self.impossible((2,), (RISK, RISK, ('run', 1, 1)), {(2,): 5})
        self.impossible((0,), (RISK, ('run', 1, 1)), {(0,): 2, (1,): 5})
        # As the risk does not fail, what stands behind it is met; as the block is not done, what is in it is not.
        self.impossible((1,), (('maybe', (('run', 1, 1),)), ('maybe', (('run', 1, 1),))), {(1,): 3, (1, 0): 9, (0, 0): 9})

    def test_choices_that_are_not_met_do_nothing(self):
        block = (('run', 1, 4), ('maybe', (('run', 2, 2),)), RISK, ('call', 'a', 'p'), ('both', (), (RISK,)))
        system = System([Policy('p', 5, tries=2)], [('a', (('run', 1, 3), RISK)), ('b', block)])
        plain = play(system, Pattern('b', {}))
        for choices in ({(1, 0): 9}, {(3, 1, 0): 9}, {(3, 1): 9}, {(3, 0): 9}, {(3,): 9}, {(4,): 9}, {(4, 0): 9}, {(4, 1): 9},
                        {(9,): 9}, {(0, 0): 9}, {(3, 0, 0, 0): 9}, {(4, 0, 0): 9}, {(4, 2, 0): 9}, {(2, 0): 9}):
            run = play(system, Pattern('b', choices))
            self.assertEqual(run, plain)
            self.same(run.met(), plain.met())
        failed = play(system, Pattern('b', {(2,): 1, (3, 0, 0): 9, (4, 1, 0): 9}))
        self.same(ends(failed), ('failed', 1))

    def test_the_pattern_stays(self):
        system = System([], [('a', (('run', 1, 4), RISK))])
        pattern = Pattern('a', {(0,): 3, (5,): 1})
        play(system, pattern)
        self.same(pattern.choices(), {(0,): 3, (5,): 1})


class Drawn:
    """draws choices; the least and the greatest more often."""

    def __init__(self, seed):
        self.rng = random.Random(seed)

    def pick(self, path, low, high):
        return self.rng.choice((low, high, self.rng.randint(low, high)))


class ReferenceTest(Case):
    def check(self, system, entry, choices):
        run = play(system, Pattern(entry, choices))
        wanted = Reference(system, entry, choices)
        self.assertEqual(run.spans(), wanted.spans())
        self.assertEqual(run.worked(), sorted(wanted.log.worked))
        self.assertEqual(run.met(), sorted(wanted.log.met.items()))
        self.assertEqual(run.faults, wanted.log.faults)
        self.assertEqual([run.how, run.end], [run.spans()[0][4], run.spans()[0][3]])
        self.assertEqual(run.last, max(span[3] for span in run))
        for span in run:
            self.assertEqual(run.unwanted(span[0]), wanted.unwanted(span[0]))
        for name in system:
            work = sum(end - begin for _, service, begin, end in wanted.log.worked if service == name)
            calls = sum(1 for path, service, *_ in wanted.spans() if service == name and path)
            self.assertEqual(run.measured(('work', name)), work)
            self.assertEqual(run.measured(('calls', name)), calls)
            self.assertEqual(run.measured(('nobody', name)), wanted.nobody(name))

    def test_drawn_patterns_of_many_systems(self):
        for seed in range(1500):
            with self.subTest(seed=seed):
                system = some_system(seed, services=2 + seed % 3, length=2 + seed % 2, short=seed % 5 > 0)
                entry = system.services()[-1]
                game = Game(system, Drawn(seed))
                game.play(entry)
                if len(game.visits) < 200:
                    self.check(system, entry, dict(game.chosen))

    def test_all_patterns_of_small_systems(self):
        for seed in range(40):
            system = some_system(1000 + seed, services=2, length=2)
            entry = system.services()[-1]
            for number, pattern in enumerate(all_patterns(system, entry)):
                if number == 60:
                    break
                self.check(system, entry, pattern.choices())

    def test_many_handler_runs(self):
        policy = Policy('p', 20, tries=3, early=1)
        rows = [('a', (RISK, ('run', 1, 20)))]
        for name, callee in zip('bcde', 'abcd'):
            call = ('want', callee, 'p')
            rows.append((name, (('both', (call,), (call,)), call)))
        system = System([policy], rows)
        run = play(system, Pattern('e', {}))
        self.assertEqual(run.how, 'answered')
        self.assertGreater(len(run), 200)
        self.assertEqual(len(run), 1 + sum(run.measured(('calls', name)) for name in system))


if __name__ == '__main__':
    unittest.main()
