"""What goes in and comes back: one list each, nothing changed, nothing kept."""

import random
import unittest

from restfield.field import answers
from tests.drawn import drawn_calls
from tests.helper import (ADD, BEGIN, DROP, DRY, LIFE, LOOK, MARKS, REST, ROUND, SIDES, SIX_THINGS, THINGS, VOID, WHY,
                          ask, flat, split)


def some_calls(seed):
    return drawn_calls(random.Random(seed), 400)


class Interface(unittest.TestCase):
    def test_the_list_handed_in_stays_as_it_was(self):
        for seed in range(10):
            calls = flat(some_calls(seed))
            before = list(calls)
            answers(calls)
            self.assertEqual(calls, before)

    def test_the_list_given_back_is_another_one(self):
        calls = [BEGIN, 0, 0]
        told = answers(calls)
        self.assertIsNot(told, calls)
        told.append(5)
        self.assertEqual(answers(calls), [1, 0])

    def test_a_second_time_is_as_the_first(self):
        for seed in range(10):
            calls = flat(some_calls(seed))
            first = answers(calls)
            answers(flat(some_calls(seed + 100)))
            self.assertEqual(answers(calls), first)

    def test_nothing_is_kept_from_one_time_to_the_next(self):
        asked = ((SIDES,), (THINGS,), (VOID, 0), (VOID, 1), (LOOK, 1), (WHY, 2), (ADD, 0, 0, 0, 0, 0, 0, 0))
        new = [[0, 0, 0, 0, 0, 0, 0, 0], [0], [0], [0], [-2], [-2], [0, 1]]
        self.assertEqual(ask(*asked), new)
        answers(flat(((BEGIN, 7, 8), *SIX_THINGS, (DROP, 2), (MARKS, 0, 3), (DRY, 1, 1), (ROUND,))))
        self.assertEqual(ask(*asked), new)
        answers(flat(((BEGIN, 7, 8), *SIX_THINGS, (REST,))))
        self.assertEqual(ask(*asked), new)

    def test_whole_numbers_and_a_list_come_back(self):
        for seed in range(10):
            told = answers(flat(some_calls(seed)))
            self.assertIs(type(told), list)
            self.assertEqual({type(number) for number in told}, {int})

    def test_one_answer_for_each_call_a_refusal_alone(self):
        # How many numbers there are where it doesn't hang on the field.
        lengths = {0: 1, 1: 2, 2: 1, 3: 1, 4: 1, 5: 1, 6: 2, 7: 2, 8: 3, 9: 2, 10: 2, 11: 2, 12: 2, 13: 1, 14: 1, 15: 1,
                   16: 2, 20: 15, 23: 8, 26: 3}
        firsts = set()
        for seed in range(20):
            calls = some_calls(seed)
            told = split(answers(flat(calls)))
            self.assertEqual(len(told), len(calls))
            for call, numbers in zip(calls, told):
                length = lengths.get(call[0], len(numbers))
                self.assertEqual(len(numbers), length if numbers[0] == 0 else 1)
                firsts.add(numbers[0])
        self.assertEqual(firsts, {0, -1, -2, -3, -4, -6})

    def test_no_call_raises_an_error(self):
        calls = flat([(number, *[1] * how_many) for number, how_many in enumerate(
            (2, 7, 7, 3, 5, 2, 1, 3, 3, 2, 2, 2, 2, 2, 1, 2, 0, 0, 0, 0, 1, 0, 1, 0, 1, 1, 1))])
        self.assertEqual(len(split(answers(calls))), 27)

    def test_all_calls_in_one_list_with_the_counts_as_they_stand(self):
        calls = [0, 5, 5,  1, 0, 0, 0, 0, 2, 0, 0,  1, 1, 2, 0, 16, 0, 0, 0,  5, 2, 1,  14, 1,  17,  15, 2, 0,  18,
                 21,  22, 0,  22, 1,  26, 1,  26, 2,  1, 1, 0, 3, 8, 1, 1, 0,  7, 3, 1, 1,  19,  20, 3,
                 7, 3, 1, 0,  16,  24, 3,  25, 3,  13, 1, 1,  19,  23,  16,  26, 3]
        self.assertEqual(answers(calls), [
            1, 0,  2, 0, 1,  2, 0, 2,  1, 0,  1, 0,  4, 0, 1, 7, 2,  1, 0,  4, 0, 1, 7, 2,
            1, 0,  3, 0, 1, 2,  1, 0,  3, 0, 0, 0,  3, 0, 0, 7,  2, 0, 3,  2, 0, 1,  6, 0, 0, 1, 1, 4, 3,
            15, 0, 1, 0, 3, 8, 8, 1, 1, 0, 0, 0, 0, 0, 0, 0,  2, 0, 1,  2, 0, 1,
            2, 0, 3,  1, 0,  1, 0,  6, 0, 2, 1, 1, 1, 1,  8, 0, 5, 5, 0, 0, 0, 1, 2,  1, -3,  1, -2])

    def test_one_call_alone_and_400(self):
        self.assertEqual(answers([LIFE, 0, 5]), [2, 0, 5])
        self.assertEqual(answers([LIFE, 0, 1] * 400), flat((2, 0, k) for k in range(1, 401)))
