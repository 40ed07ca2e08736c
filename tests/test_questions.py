import random
import unittest

from helpers import VALUES, Case
from mostcalls.counts import Counts
from mostcalls.errors import InvalidPolicy, InvalidQuestion, TooLong, UnknownName
from mostcalls.policies import Policy
from mostcalls.questions import ask
from mostcalls.systems import System
from mostcalls.times import answer_times, fail_times, hopeless, last_tick
from samples import some_system

SYSTEM = System([Policy('p', 3, tries=2), Policy('q', 1)],
                [('a', (('run', 2, 4),)), ('b', (('call', 'a', 'p'),)), ('c', (('want', 'b', 'q'), ('call', 'a', 'q')))])
# Services and policies that are called as words of questions are.
WORDS = System([Policy('with', 3), Policy('limit', 3), Policy('calls', 3, tries=2)],
               [('from', (('run', 0, 4),)), ('answer', (('call', 'from', 'limit'),)), ('hopeless', (('call', 'answer', 'calls'),)),
                ('with', (('want', 'from', 'with'),)), ('calls', ())])


def times_told(ticks):
    return 'never' if ticks is None else '%d to %d' % ticks


def all_questions(system):
    """tuples (question, answer)."""
    found = []
    for entry in system:
        for kind in ('calls', 'work', 'nobody'):
            for service in system:
                number = Counts(system, (kind, service)).greatest(entry)
                found.append(('%s %s from %s' % (kind, service, entry), str(number)))
        found.append(('answer ' + entry, times_told(answer_times(system, entry))))
        found.append(('fail ' + entry, times_told(fail_times(system, entry))))
        found.append(('last ' + entry, str(last_tick(system, entry))))
    calls = ['%s.%d' % row for row in hopeless(system)]
    found.append(('hopeless', ' '.join(calls) if calls else 'none'))
    return found


class AskTest(Case):
    def test_drawn_systems(self):
        seen = set()
        for seed in range(60):
            system = some_system(seed, 3)
            for question, answer in all_questions(system):
                self.same(ask(system, question), answer)
                seen.add((question.split(' ')[0], answer in ('never', 'none', '0')))
        for kind in ('calls', 'work', 'nobody', 'answer', 'fail', 'last', 'hopeless'):
            for is_nothing in (True, False):
                self.assertIn((kind, is_nothing), seen)

    def test_with_other_limits(self):
        for seed in range(40):
            rng = random.Random(seed)
            system = some_system(seed, 3)
            changed, ahead = system, ''
            for _ in range(rng.randint(1, 4)):
                policy, limit = rng.choice(system.policies()), rng.randint(1, 20)
                ahead += 'with %s limit %d ' % (policy, limit)
                try:
                    changed = changed.with_policy(changed.policy(policy).changed(limit=limit))
                except TooLong as error:
                    self.raises(TooLong, {'service': error.service}, ask, system, ahead + 'hopeless')
                    break
            else:
                for question, answer in rng.sample(all_questions(changed), 6):
                    self.same(ask(system, ahead + question), answer)

    def test_one_limit_after_the_other(self):
        self.same(ask(SYSTEM, 'with p limit 1 with p limit 4 answer b'), '2 to 4')
        self.same(ask(SYSTEM, 'with p limit 4 with p limit 1 answer b'), 'never')
        self.same(ask(SYSTEM, 'with p limit 4 with q limit 9 hopeless'), 'none')
        self.same(ask(SYSTEM, 'hopeless'), 'c.0 c.1')
        long = System([Policy('p', 3, tries=3), Policy('q', 3, tries=3)], [('a', ()), ('b', (('call', 'a', 'p'),) * 4 + (('call', 'a', 'q'),) * 4)])
        self.same(ask(long, 'with p limit 20 with q limit 13 last b'), '0')
        self.raises(TooLong, {'service': 'b'}, ask, long, 'with p limit 20 with q limit 20 with p limit 1 last b')

    def test_by_hand(self):
        for question, answer in (('calls a from b', '2'), ('calls b from b', '0'), ('work a from b', '8'), ('nobody a from b', '2'),
                                 ('answer b', '2 to 6'), ('answer a', '2 to 4'), ('fail a', 'never'), ('fail b', '6 to 6'),
                                 ('last b', '7'), ('answer c', 'never'), ('with q limit 4 answer c', '4 to 8')):
            self.same(ask(SYSTEM, question), answer)

    def test_names_like_words(self):
        for question, answer in all_questions(WORDS):
            self.same(ask(WORDS, question), answer)
        for question, answer in (('calls from from answer', '1'), ('calls calls from calls', '0'), ('answer answer', '0 to 3'),
                                 ('answer with', '0 to 3'), ('last from', '4'), ('fail with', 'never'), ('hopeless', 'none'),
                                 ('with with limit 1 answer with', '0 to 1'), ('with limit limit 1 answer answer', '0 to 1')):
            self.same(ask(WORDS, question), answer)

    def test_drawn_words(self):
        """the first word that cannot stand there, beside a search for a word that helps."""
        rng = random.Random(5)
        words = ('calls', 'work', 'nobody', 'answer', 'fail', 'last', 'hopeless', 'with', 'limit', 'from', 'x', '', '3', '03')
        right = 0
        for _ in range(4000):
            drawn = [rng.choice(words) for _ in range(rng.randint(1, 7))]
            if rng.random() < 0.5:
                drawn = ['with', rng.choice(words), 'limit', rng.choice(words)] + drawn
            place = slow_place(drawn)
            if place is None:
                right += 1
                try:
                    ask(SYSTEM, ' '.join(drawn))
                except UnknownName:
                    pass
            else:
                self.raises(InvalidQuestion, {'word': place}, ask, SYSTEM, ' '.join(drawn))
        self.assertGreater(right, 60)

    def test_questions_that_are_none(self):
        for text, word in (('', 0), (' ', 0), ('x', 0), ('Hopeless', 0), ('hopeless ', 1), ('hopeless x', 1), (' hopeless', 0),
                           ('answer', 1), ('answer ', 1), ('answer b ', 2), ('answer b c', 2), ('answer  b', 1), ('calls', 1),
                           ('calls a', 2), ('calls a from', 3), ('calls a to b', 2), ('calls a from b from', 4), ('calls a  from b', 2),
                           ('calls a from ', 3), ('calls a from  b', 3), ('with', 1), ('with p', 2), ('with p limit', 3), ('with p limit 3', 4),
                           ('with p limit 3 ', 4), ('with p limit 3  hopeless', 4), ('with p limits 3 hopeless', 2),
                           ('with p limit x hopeless', 3), ('with p limit -3 hopeless', 3), ('with p limit +3 hopeless', 3),
                           ('with p limit 03 hopeless', 3), ('with p limit 00 hopeless', 3), ('with p limit 3.0 hopeless', 3),
                           ('with p limit 1_0 hopeless', 3), ('with p limit \u0663 hopeless', 3), ('with p limit ' + '1' * 31 + ' hopeless', 3),
                           ('with  limit 3 hopeless', 1), ('with p limit 3 with q limit 3', 8), ('with p limit 3 with q limit 3 x', 8),
                           ('with p limit 3 hopeless x', 5), ('hopeless with p limit 3', 1), ('calls a\tfrom b', 2), ('last\nb', 0)):
            self.raises(InvalidQuestion, {'word': word}, ask, SYSTEM, text)
        for value in VALUES:
            if not isinstance(value, str):
                self.raises(InvalidQuestion, {'word': None}, ask, SYSTEM, value)

    def test_the_form_is_looked_at_first(self):
        self.raises(InvalidQuestion, {'word': 8}, ask, SYSTEM, 'with x limit 99 with y limit 0')
        self.raises(InvalidQuestion, {'word': 6}, ask, SYSTEM, 'with x limit 99 calls y with z')

    def test_errors_from_left_to_right(self):
        for text, error, fields in (
                ('answer x', UnknownName, {'value': 'x'}), ('last p', UnknownName, {'value': 'p'}), ('fail A-9', UnknownName, {'value': 'A-9'}),
                ('calls x from y', UnknownName, {'value': 'x'}), ('calls a from y', UnknownName, {'value': 'y'}),
                ('work x from b', UnknownName, {'value': 'x'}), ('nobody b from y', UnknownName, {'value': 'y'}),
                ('with x limit 0 answer y', UnknownName, {'value': 'x'}), ('with p limit 0 answer y', InvalidPolicy, {'field': 'limit'}),
                ('with p limit 21 answer y', InvalidPolicy, {'field': 'limit'}),
                ('with p limit ' + '9' * 30 + ' answer b', InvalidPolicy, {'field': 'limit'}),
                ('with p limit 20 answer y', UnknownName, {'value': 'y'}), ('with a limit 3 hopeless', UnknownName, {'value': 'a'}),
                ('with p limit 3 with x limit 0 answer y', UnknownName, {'value': 'x'}),
                ('with p limit 0 with x limit 0 answer y', InvalidPolicy, {'field': 'limit'})):
            self.raises(error, fields, ask, SYSTEM, text)
        long = System([Policy('p', 3, tries=3)], [('a', ()), ('b', (('call', 'a', 'p'),) * 8)])
        self.raises(TooLong, {'service': 'b'}, ask, long, 'with p limit 20 with x limit 0 answer y')
        self.raises(UnknownName, {'value': 'x'}, ask, long, 'with x limit 20 with p limit 20 answer y')

    def test_the_system_stays(self):
        ask(SYSTEM, 'with p limit 9 hopeless')
        self.same(SYSTEM.policy('p').limit, 3)

    def test_named_arguments(self):
        self.same(ask(text='answer b', system=SYSTEM), '2 to 6')


def forms(words):
    """all forms of questions with so many changes as there could be in these words."""
    kinds = [[kind, None, 'from', None] for kind in ('calls', 'work', 'nobody')]
    kinds += [[kind, None] for kind in ('answer', 'fail', 'last')] + [['hopeless']]
    for many in range(len(words) // 4 + 2):
        for kind in kinds:
            yield ['with', None, 'limit', int] * many + kind


def fits(word, told):
    if told is int:
        return word == '3'
    return word != '' and told in (None, word)


def slow_place(words):
    """the first place at which no form allows its word behind those ahead, None if some form allows all."""
    most = 0
    for form in forms(words):
        place = 0
        while place < min(len(words), len(form)) and fits(words[place], form[place]):
            place += 1
        if place == len(words) == len(form):
            return None
        most = max(most, place)
    return most


if __name__ == '__main__':
    unittest.main()
