"""The edges of the range of each number of each call."""

import unittest

from tests.helper import (ADD, BEGIN, BUFF, COUNT, DROP, DRY, FIT, GIVE, GREATEST, HURT, JOIN, LEAST, LEND, LIFE, LOOK,
                          MARKS, MOST, PART, SIDES, SIX_AND_ONE_GONE, STAND, TAKEN_CALLS, THING_PLACES, VOID, WARD, WHY,
                          ask, last, seen, view_calls)


def with_number(call, place, number):
    """The taken call with one of its numbers put in the place of another."""
    numbers = list(TAKEN_CALLS[call][0])
    numbers[place] = number
    return (call, *numbers)


def every_number():
    return [(call, place, ends) for call, (_, ranges) in TAKEN_CALLS.items() for place, ends in enumerate(ranges)]


class Ranges(unittest.TestCase):
    def test_the_taken_calls_are_taken(self):
        for call, (numbers, ranges) in TAKEN_CALLS.items():
            with self.subTest(call=call):
                self.assertEqual(len(numbers), len(ranges))
                self.assertEqual(last(*SIX_AND_ONE_GONE, (call, *numbers))[0], 0)

    def test_every_call_is_among_them(self):
        self.assertEqual(sorted(TAKEN_CALLS), list(range(27)))

    def test_beyond_the_edges_nothing_changes(self):
        views = view_calls(8)
        for call, place, (least, greatest) in every_number():
            for number in (least - 1, greatest + 1, LEAST, GREATEST):
                with self.subTest(call=call, place=place, number=number):
                    told = ask(*SIX_AND_ONE_GONE, *views, with_number(call, place, number), *views)
                    told = told[len(SIX_AND_ONE_GONE):]
                    self.assertEqual(told[len(views)], [-1])
                    self.assertEqual(told[:len(views)], told[len(views) + 1:])

    def test_at_the_edges(self):
        for call, place, ends in every_number():
            for number in ends:
                with self.subTest(call=call, place=place, number=number):
                    told = last(*SIX_AND_ONE_GONE, with_number(call, place, number))
                    if place in THING_PLACES.get(call, ()) or call == WHY:
                        self.assertEqual(told, [-2])
                    else:
                        self.assertEqual(told[0], 0)

    def test_every_number_at_its_least_or_greatest(self):
        for call, (numbers, ranges) in TAKEN_CALLS.items():
            for end in (0, 1):
                with self.subTest(call=call, end=end):
                    things = (0,) if call == WHY else THING_PLACES.get(call, ())
                    edge = [numbers[place] if place in things else ends[end] for place, ends in enumerate(ranges)]
                    self.assertEqual(last(*SIX_AND_ONE_GONE, (call, *edge))[0], 0)


class WholeAnswersAtTheEdges(unittest.TestCase):
    def check(self, *rows):
        for call, told in rows:
            with self.subTest(call=call):
                self.assertEqual(last(*SIX_AND_ONE_GONE, call), told)

    def test_begin_add_and_what_is_set(self):
        self.check(
            ((BEGIN, 0, 0), [0]), ((BEGIN, MOST, MOST), [0]),
            ((ADD, 0, 0, 0, 0, -MOST, 0, 0), [0, 8]), ((ADD, 1, 4, MOST, 65535, MOST, MOST, MOST), [0, 8]),
            ((BUFF, 1, 0, 0, 0, 0, -MOST, 0), [0]), ((BUFF, 6, 2, 65535, 65535, 1, MOST, 65535), [0]),
            ((LEND, 1, -MOST, 0), [0]), ((LEND, 6, MOST, 65535), [0]),
            ((FIT, 1, 0, 0, 0, 0), [0]), ((FIT, 6, 2, 65535, 65535, 31), [0]),
            ((DRY, 0, 0), [0]), ((DRY, 1, 1), [0]),
        )

    def test_the_first_and_the_last_thing_there_and_the_next_ones(self):
        self.check(
            ((PART, 0), [-2]), ((PART, 1), [0, 0]), ((PART, 6), [0, 0]), ((PART, 7), [-2]),
            ((JOIN, 4, 0), [-2]), ((JOIN, 4, 1), [0]), ((JOIN, 4, 6), [0]), ((JOIN, 4, 7), [-2]),
            ((DROP, 0), [-2]), ((DROP, 1), [0]), ((DROP, 6), [0]), ((DROP, 7), [-2]), ((DROP, 8), [-2]),
            ((WHY, 0), [-2]), ((WHY, 1), [-2]), ((WHY, 6), [-2]), ((WHY, 7), [0, 1, 0]), ((WHY, 8), [-2]),
        )

    def test_the_sides(self):
        self.check(
            ((VOID, -1), [-1]), ((VOID, 0), [0]), ((VOID, 1), [0, 7]), ((VOID, 2), [-1]),
            ((GIVE, 1, -1), [-1]), ((GIVE, 1, 0), [0]), ((GIVE, 1, 1), [0]), ((GIVE, 1, 2), [-1]),
        )

    def test_what_changes_an_amount(self):
        self.check(
            ((HURT, 1, 0, 0), [0, 0]), ((HURT, 1, MOST, 1), [0, MOST]), ((HURT, 6, MOST, 0), [0, 0]),
            ((COUNT, 1, -MOST, MOST), [0, 0, MOST]), ((COUNT, 1, MOST, -MOST), [0, MOST, 0]),
            ((STAND, 1, MOST), [0, MOST]), ((STAND, 6, -MOST), [0, 0]),
            ((WARD, 1, MOST), [0, MOST]), ((WARD, 2, -MOST), [0, 0]),
            ((LIFE, 0, -MOST), [0, -MOST]), ((LIFE, 1, MOST), [0, MOST]),
            ((MARKS, 0, -MOST), [0, 0]), ((MARKS, 1, MOST), [0, MOST]),
        )

    def test_the_greatest_numbers_are_kept_as_they_are(self):
        calls = ((BEGIN, MOST, MOST - 1), (ADD, 1, 4, MOST, 65535, MOST, MOST, MOST),
                 (BUFF, 1, 1, 65535, 0, 0, MOST, 65535))
        self.assertEqual(last(*calls, (SIDES,)), [0, MOST, MOST - 1, 0, 0, 0, 0, 0])
        self.assertEqual(last(*calls, (LOOK, 1)),
                         [0, 1, 4, MOST, 65535, 65535, MOST, 2 * MOST, 0, 0, 0, 0, MOST, MOST, 0])

    def test_toughness_now_has_no_bounds(self):
        beings = [(ADD, 0, 0, 0, 0, sign * MOST, 0, 0) for sign in (1, -1)]
        buffs = [(BUFF, n, 1, 0, 0, 1, MOST, 0) for n in (3, 4)]
        for n, own in ((1, MOST), (2, -MOST)):
            calls = (*beings, *beings, *buffs, (COUNT, n, MOST, 0))
            self.assertEqual(seen(n, *calls)["toughness now"], own + 3 * MOST)
            self.assertEqual(seen(n, *calls, (COUNT, n, -MOST, MOST))["toughness now"], own + MOST)
