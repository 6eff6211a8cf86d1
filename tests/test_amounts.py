"""Amounts that stay from 0 to 1000000000, and lives that do not."""

import unittest

from tests.helper import (ADD, BEGIN, BEING, COUNT, HURT, LIFE, MARKS, MOST, POST, RELIC, STAND, WARD, ask)


class Bounds(unittest.TestCase):
    def test_damage(self):
        being = (ADD, 0, BEING, 0, 0, 1, 0, 0)
        told = ask(being, (HURT, 1, MOST - 1, 0), (HURT, 1, 1, 0), (HURT, 1, 1, 0), (HURT, 1, MOST, 1), (HURT, 1, 0, 0))
        self.assertEqual(told[1:], [[0, MOST - 1], [0, MOST], [0, MOST], [0, MOST], [0, MOST]])

    def test_a_posts_standing_when_hurt(self):
        post = (ADD, 0, POST, 0, 0, 0, 0, 3)
        told = ask(post, (HURT, 1, 2, 0), (HURT, 1, 1, 0), (HURT, 1, 1, 0), (STAND, 1, 2), (HURT, 1, MOST, 0),
                   (STAND, 1, 1))
        self.assertEqual(told[1:], [[0, 1], [0, 0], [0, 0], [0, 2], [0, 0], [0, 1]])

    def check_one(self, first, call, *numbers):
        """From 0: down, up to the greatest, beyond it, back, and below 0."""
        deltas = (-1, 1, MOST - 1, 1, MOST, -1, -MOST, -MOST, 5, -6, 2)
        after = (0, 1, MOST, MOST, MOST, MOST - 1, 0, 0, 5, 0, 2)
        told = ask(*first, *[(call, *numbers, delta) for delta in deltas])
        self.assertEqual(told[len(first):], [[0, amount] for amount in after])

    def test_standing(self):
        self.check_one([(ADD, 1, RELIC, 0, 0, 0, 0, 0)], STAND, 1)

    def test_wards(self):
        self.check_one([(ADD, 1, RELIC, 0, 0, 0, 0, 0)], WARD, 1)

    def test_marks(self):
        self.check_one([], MARKS, 0)
        self.check_one([], MARKS, 1)

    def test_counters(self):
        relic = (ADD, 1, RELIC, 0, 0, 0, 0, 0)
        told = ask(relic, (COUNT, 1, -1, 1), (COUNT, 1, MOST, MOST), (COUNT, 1, 1, -1), (COUNT, 1, -MOST, 2),
                   (COUNT, 1, -1, -MOST), (COUNT, 1, 3, -1))
        self.assertEqual(told[1:], [[0, 0, 1], [0, MOST, MOST], [0, MOST, MOST - 1], [0, 0, MOST], [0, 0, 0],
                                    [0, 3, 0]])

    def test_what_is_added_with_the_greatest_amounts(self):
        told = ask((ADD, 1, RELIC, 0, 0, 0, MOST, MOST), (WARD, 1, 1), (STAND, 1, 1), (WARD, 1, -1), (STAND, 1, -2))
        self.assertEqual(told, [[0, 1], [0, MOST], [0, MOST], [0, MOST - 1], [0, MOST - 2]])


class Life(unittest.TestCase):
    def test_far_below_0(self):
        told = ask((BEGIN, 1, MOST), *[(LIFE, 0, -MOST) for _ in range(300)])
        self.assertEqual(told[1:], [[0, 1 - MOST * k] for k in range(1, 301)])

    def test_far_above_what_begin_takes(self):
        told = ask((BEGIN, 1, MOST), *[(LIFE, 1, MOST) for _ in range(300)], (LIFE, 0, 0))
        self.assertEqual(told[1:], [[0, MOST * (k + 1)] for k in range(1, 301)] + [[0, 1]])

    def test_down_and_up_again(self):
        told = ask((LIFE, 1, -MOST), (LIFE, 1, -1), (LIFE, 1, MOST), (LIFE, 1, MOST), (LIFE, 1, 7))
        self.assertEqual(told, [[0, -MOST], [0, -MOST - 1], [0, -1], [0, MOST - 1], [0, MOST + 6]])
