"""What goes in and comes back: one list each, nothing changed, nothing kept; and nothing favours a side."""

import random
import unittest

from restfield.field import answers
from tests.helper import (ADD, BEGIN, DRY, GREATEST, LEAST, LIFE, MARKS, SIX_THINGS, TAKEN_CALLS, ask, field_after, flat,
                          picture, split)

NUMBERS = (LEAST, -1000000001, -1000000000, -2, -1, 0, 0, 1, 1, 2, 3, 4, 5, 6, 31, 32, 65535, 65536, 1000000000,
           1000000001, GREATEST)


def some_calls(seed, how_many=400):
    """Calls with taken numbers, and here and there another number among them; the same for the same seed."""
    source = random.Random(seed)
    calls = list(SIX_THINGS)
    while len(calls) < how_many:
        # begin only now and then, and add often, or the field would hardly fill.
        call = source.choice([BEGIN] + [ADD] * 60 + list(range(2, 14)) * 10)
        numbers = list(TAKEN_CALLS[call][0])
        for place in range(len(numbers)):
            if source.random() < 0.4:
                numbers[place] = source.choice(NUMBERS) if source.random() < 0.3 else source.randrange(8)
        calls.append((call, *numbers))
    return calls


class Interface(unittest.TestCase):
    def test_the_list_handed_in_stays_as_it_was(self):
        for seed in range(10):
            calls = flat(some_calls(seed))
            before = list(calls)
            answers(calls)
            self.assertEqual(calls, before)

    def test_the_list_given_back_is_another_one(self):
        calls = [BEGIN, 0, 0]
        told = answers(calls)
        self.assertIsNot(told, calls)
        told.append(5)
        self.assertEqual(answers(calls), [1, 0])

    def test_a_second_time_is_as_the_first(self):
        for seed in range(10):
            calls = flat(some_calls(seed))
            first = answers(calls)
            answers(flat(some_calls(seed + 100)))
            self.assertEqual(answers(calls), first)

    def test_nothing_is_kept_from_one_time_to_the_next(self):
        answers(flat(((BEGIN, 7, 8), *SIX_THINGS, (MARKS, 0, 3), (DRY, 1, 1))))
        told = ask((LIFE, 0, 0), (LIFE, 1, 0), (MARKS, 0, 0), (6, 1), (ADD, 0, 0, 0, 0, 0, 0, 0))
        self.assertEqual(told, [[0, 0], [0, 0], [0, 0], [-2], [0, 1]])

    def test_whole_numbers_and_a_list_come_back(self):
        for seed in range(10):
            told = answers(flat(some_calls(seed)))
            self.assertIs(type(told), list)
            self.assertEqual({type(number) for number in told}, {int})

    def test_one_answer_for_each_call_a_refusal_alone(self):
        lengths = (1, 2, 1, 1, 1, 1, 2, 2, 3, 2, 2, 2, 2, 1)
        seen = set()
        for seed in range(20):
            calls = some_calls(seed)
            told = split(answers(flat(calls)))
            self.assertEqual(len(told), len(calls))
            for call, numbers in zip(calls, told):
                self.assertEqual(len(numbers), lengths[call[0]] if numbers[0] == 0 else 1)
                seen.add(numbers[0])
        self.assertEqual(seen, {0, -1, -2, -4, -5, -6})

    def test_one_call_alone_and_400(self):
        self.assertEqual(answers([LIFE, 0, 5]), [2, 0, 5])
        self.assertEqual(answers([LIFE, 0, 1] * 400), flat((2, 0, k) for k in range(1, 401)))


def exchanged(call):
    """The same call with the sides exchanged; whose is told from the thing's own side, so it stays."""
    if call[0] == BEGIN:
        return (BEGIN, call[2], call[1])
    if call[0] in (ADD, LIFE, MARKS, DRY):
        return (call[0], 1 - call[1], *call[2:])
    return call


class NothingFavoursASide(unittest.TestCase):
    def test_the_answers_are_the_same_with_the_sides_exchanged(self):
        for seed in range(20):
            calls = some_calls(seed)
            self.assertEqual(ask(*calls), ask(*[exchanged(call) for call in calls]))

    def test_the_field_is_the_same_with_the_sides_exchanged(self):
        for seed in range(20):
            calls = some_calls(seed)
            field = field_after(*calls)
            field.sides = list(reversed(field.sides))
            for thing in field.things.values():
                thing.side = 1 - thing.side
            self.assertEqual(picture(field), picture(field_after(*[exchanged(call) for call in calls])))
