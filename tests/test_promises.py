"""The promises over drawn fields, and every answer to drawn calls against the model."""

import random
import unittest

from tests.drawn import drawn_calls, drawn_chain, drawn_field, exchanged, exchanged_answer
from tests.helper import (COUNT, DROP, DUE, LOOK, PART, REST, ROUND, SIDES, THINGS, WARD, WHY, ask, due, last, pairs_of,
                          rounds_of, view, view_calls)
from tests.model import Model

FIELDS = 300
TO_GO = (2, 3, 5, 6, 7)


def fields(how_many=FIELDS):
    for seed in range(how_many):
        draw = drawn_chain if seed % 3 == 2 else drawn_field
        yield seed, draw(random.Random(seed))


def numbers_there(*calls):
    return last(*calls, (THINGS,))[1:]


class TheModel(unittest.TestCase):
    def test_every_answer_to_drawn_calls(self):
        refused, taken, kinds, results = set(), set(), set(), set()
        for seed in range(250):
            calls = drawn_calls(random.Random(1000 + seed))
            model = Model()
            for place, (call, told) in enumerate(zip(calls, ask(*calls), strict=True)):
                self.assertEqual(told, model.answer(*call), (seed, place, call))
                refused.add((call[0], told[0]))
                if told[0] == 0:
                    taken.add(call[0])
                if told[0] == 0 and call[0] in (DUE, ROUND):
                    kinds.update(kind for kind, _ in pairs_of(told[1:]))
                results.add(model.result)
        # The drawn calls are of use only while they meet all of this.
        self.assertEqual(taken, set(range(27)))
        self.assertEqual(kinds, set(range(1, 10)))
        self.assertEqual(results, {0, 1, 2, 3})
        closed = set(range(1, 17)) | {18, 19}
        self.assertEqual({call for call, number in refused if number == -3}, closed)

    def test_fields_of_64_things(self):
        for seed in range(4):
            calls = drawn_field(random.Random(2000 + seed), 64) + [(DUE,), (ROUND,), (THINGS,), (REST,), (SIDES,)]
            model = Model()
            self.assertEqual(ask(*calls), [model.answer(*call) for call in calls])


class Resting(unittest.TestCase):
    def test_it_ends_within_four_rounds_for_each_thing_and_one_more(self):
        longest = 0
        for seed, calls in fields():
            there = numbers_there(*calls)
            result, rounds = rounds_of(last(*calls, (REST,)))
            self.assertLessEqual(len(rounds), 4 * len(there) + 1, seed)
            longest = max(longest, len(rounds))
        self.assertGreater(longest, 9)

    def test_it_ends_on_chains_of_64_things(self):
        for seed in range(10):
            calls = drawn_chain(random.Random(seed), 64)
            result, rounds = rounds_of(last(*calls, (REST,)))
            self.assertEqual(result, 0)
            self.assertLessEqual(len(rounds), 4 * 63 + 1)
            self.assertEqual(due(*calls, (REST,)), [])

    def test_after_it_there_is_a_result_or_nothing_is_due(self):
        ends = set()
        for seed, calls in fields():
            result, _ = rounds_of(last(*calls, (REST,)))
            self.assertEqual(last(*calls, (REST,), (SIDES,))[-1], result)
            self.assertTrue(result != 0 or due(*calls, (REST,)) == [], seed)
            ends.add(result)
        self.assertEqual(ends, {0, 1, 2, 3})

    def test_it_is_rounds_one_after_another(self):
        for seed, calls in fields(150):
            result, rounds = rounds_of(last(*calls, (REST,)))
            one_by_one = [(ROUND,)] * len(rounds)
            told = ask(*calls, *one_by_one, (SIDES,))[len(calls):]
            self.assertEqual([pairs_of(each[1:]) for each in told[:-1]], rounds, seed)
            self.assertNotIn([], rounds, seed)
            self.assertEqual(told[-1][-1], result, seed)
            self.assertEqual(view(16, *calls, (REST,)), view(16, *calls, *one_by_one), seed)

    def test_no_round_but_the_last_brings_a_result(self):
        for seed, calls in fields(150):
            result, rounds = rounds_of(last(*calls, (REST,)))
            for k, pairs in enumerate(rounds):
                loses = any(kind == 1 for kind, _ in pairs)
                self.assertEqual(loses, result != 0 and k == len(rounds) - 1, seed)

    def test_a_second_rest_does_nothing(self):
        for seed, calls in fields(150):
            told = ask(*calls, (REST,), *view_calls(16), (REST,), *view_calls(16))
            views = len(view_calls(16))
            rested, again = told[len(calls)], told[len(calls) + 1 + views]
            self.assertEqual(again, [0, 0, 0] if rested[1] == 0 else [-3], seed)
            self.assertEqual(told[len(calls) + 1:len(calls) + 1 + views], told[-views:], seed)


class ARound(unittest.TestCase):
    def test_it_does_what_was_due_at_its_beginning(self):
        for seed, calls in fields():
            told = ask(*calls, (DUE,), (ROUND,))
            self.assertEqual(told[-1], told[-2], seed)

    def test_asking_what_is_due_changes_nothing(self):
        for seed, calls in fields(100):
            self.assertEqual(view(16, *calls), view(16, *calls, (DUE,)), seed)

    def test_its_acts_may_be_done_in_any_order(self):
        for seed, calls in fields(150):
            expected = view(16, *calls, (ROUND,))
            source = random.Random(seed)
            orders = [list, lambda pairs: pairs[::-1]] + [lambda pairs: source.sample(pairs, len(pairs))] * 3
            for order in orders:
                model = Model()
                for call in calls:
                    model.answer(*call)
                model.round(order)
                self.assertEqual([model.answer(*call) for call in view_calls(16)], expected, seed)

    def test_its_acts_may_be_done_by_calls_in_any_order(self):
        for seed, calls in fields(150):
            pairs = due(*calls)
            warded = [n for kind, n in pairs if kind == 4]
            expected = self.looks(warded, *calls, (ROUND,))
            for turn in range(3):
                acts = self.acts_as_calls(pairs, random.Random(seed + turn), *calls)
                self.assertEqual(self.looks(warded, *calls, *acts), expected, seed)

    def acts_as_calls(self, pairs, source, *calls):
        going = {n for kind, n in pairs if kind in TO_GO}
        acts = [(DROP, n) for n in going]
        for kind, n in pairs:
            if kind == 4:
                acts.append((WARD, n, -1))
            if kind == 8:
                acts.append((PART, n))
            if kind == 9:
                told = last(*calls, (LOOK, n))
                fewer = min(told[10], told[11])
                acts.append((COUNT, n, -fewer, -fewer))
        source.shuffle(acts)
        return acts

    def looks(self, warded, *calls):
        """What is there, and how it looks; no call heals one thing alone, so that is left out where a ward was used."""
        there = numbers_there(*calls)
        told = ask(*calls, (THINGS,), *[(LOOK, n) for n in there])[len(calls) + 1:]
        return [(n, look[:8] + look[10:] if n in warded else look) for n, look in zip(there, told, strict=True)]

    def test_what_went_had_a_reason_that_was_due(self):
        reasons = set()
        for seed, calls in fields():
            before = numbers_there(*calls)
            pairs = due(*calls)
            after = numbers_there(*calls, (ROUND,))
            went = [n for n in before if n not in after]
            self.assertEqual([n for n in after if n not in before], [])
            self.assertEqual(went, sorted({n for kind, n in pairs if kind in TO_GO}), seed)
            for n in went:
                told = last(*calls, (ROUND,), (WHY, n))
                least = min(kind for kind, m in pairs if m == n and kind in TO_GO)
                self.assertEqual(told, [0, last(*calls, (LOOK, n))[1], least], seed)
                reasons.add(least)
        self.assertEqual(reasons, set(TO_GO))

    def test_a_thing_of_which_nothing_was_due_is_as_it_was(self):
        spared = 0
        for seed, calls in fields():
            touched = {n for kind, n in due(*calls) if kind != 1}
            for n in numbers_there(*calls):
                if n not in touched:
                    self.assertEqual(self.own(n, *calls), self.own(n, *calls, (ROUND,)), seed)
                    spared += 1
        self.assertGreater(spared, FIELDS)

    def own(self, n, *calls):
        """All of a look but what the thing has now, which hangs on others too."""
        told = last(*calls, (LOOK, n))
        return told[:5] + told[6:7] + told[8:]

    def test_the_sides_are_as_they_were_but_for_the_result(self):
        for seed, calls in fields(150):
            before, after = last(*calls, (SIDES,)), last(*calls, (ROUND,), (SIDES,))
            self.assertEqual(before[:7], after[:7], seed)
            losing = [p for kind, p in due(*calls) if kind == 1]
            self.assertEqual(after[7], {(): 0, (0,): 1, (1,): 2, (0, 1): 3}[tuple(losing)], seed)


class NothingFavoursASide(unittest.TestCase):
    def check(self, calls):
        told = ask(*calls)
        expected = [exchanged_answer(call, each) for call, each in zip(calls, told, strict=True)]
        self.assertEqual(ask(*[exchanged(call) for call in calls]), expected)

    def test_drawn_fields_and_their_rest(self):
        for seed, calls in fields(200):
            for act in ((), ((DUE,), (ROUND,)), ((REST,),)):
                self.check([*calls, *act, *view_calls(16)])

    def test_drawn_calls_of_every_kind(self):
        for seed in range(150):
            self.check(drawn_calls(random.Random(5000 + seed), 200))
