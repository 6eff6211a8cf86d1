"""The edges of the range of each number of each call."""

import unittest

from tests.helper import (ADD, BEGIN, BUFF, COUNT, DRY, FIT, GREATEST, HURT, JOIN, LEAST, LEND, LIFE, MARKS, MOST, PART,
                          SIX_THINGS, STAND, TAKEN_CALLS, THING_PLACES, WARD, field_after, last, picture, tell)


def with_number(call, place, number):
    """The taken call with one of its numbers put in the place of another."""
    numbers = list(TAKEN_CALLS[call][0])
    numbers[place] = number
    return (call, *numbers)


def every_number():
    return [(call, place, ends) for call, (_, ranges) in TAKEN_CALLS.items() for place, ends in enumerate(ranges)]


class Ranges(unittest.TestCase):
    def test_the_taken_calls_are_taken(self):
        for call, (numbers, ranges) in TAKEN_CALLS.items():
            with self.subTest(call=call):
                self.assertEqual(len(numbers), len(ranges))
                self.assertEqual(last(*SIX_THINGS, (call, *numbers))[0], 0)

    def test_beyond_the_edges(self):
        for call, place, (least, greatest) in every_number():
            for number in (least - 1, greatest + 1, LEAST, GREATEST):
                with self.subTest(call=call, place=place, number=number):
                    self.assertEqual(last(*SIX_THINGS, with_number(call, place, number)), [-1])

    def test_beyond_the_edges_nothing_changes(self):
        for call, place, (least, greatest) in every_number():
            for number in (least - 1, greatest + 1, LEAST, GREATEST):
                with self.subTest(call=call, place=place, number=number):
                    field = field_after(*SIX_THINGS)
                    self.assertEqual(tell(field, with_number(call, place, number)), [-1])
                    self.assertEqual(picture(field), picture(field_after(*SIX_THINGS)))

    def test_at_the_edges(self):
        for call, place, ends in every_number():
            for number in ends:
                with self.subTest(call=call, place=place, number=number):
                    told = last(*SIX_THINGS, with_number(call, place, number))
                    if place in THING_PLACES.get(call, ()):
                        self.assertEqual(told, [-2])
                    else:
                        self.assertEqual(told[0], 0)

    def test_every_number_at_its_least_or_greatest(self):
        for call, (numbers, ranges) in TAKEN_CALLS.items():
            for end in (0, 1):
                with self.subTest(call=call, end=end):
                    things = THING_PLACES.get(call, ())
                    edge = [numbers[place] if place in things else ends[end] for place, ends in enumerate(ranges)]
                    self.assertEqual(last(*SIX_THINGS, (call, *edge))[0], 0)


class WholeAnswersAtTheEdges(unittest.TestCase):
    def check(self, *rows):
        for call, told in rows:
            with self.subTest(call=call):
                self.assertEqual(last(*SIX_THINGS, call), told)

    def test_begin_add_and_what_is_set(self):
        self.check(
            ((BEGIN, 0, 0), [0]), ((BEGIN, MOST, MOST), [0]),
            ((ADD, 0, 0, 0, 0, -MOST, 0, 0), [0, 7]), ((ADD, 1, 4, MOST, 65535, MOST, MOST, MOST), [0, 7]),
            ((BUFF, 1, 0, 0, 0, 0, -MOST, 0), [0]), ((BUFF, 6, 2, 65535, 65535, 1, MOST, 65535), [0]),
            ((LEND, 1, -MOST, 0), [0]), ((LEND, 6, MOST, 65535), [0]),
            ((FIT, 1, 0, 0, 0, 0), [0]), ((FIT, 6, 2, 65535, 65535, 31), [0]),
            ((DRY, 0, 0), [0]), ((DRY, 1, 1), [0]),
        )

    def test_the_first_and_the_last_thing_there_and_the_next_ones(self):
        self.check(
            ((PART, 0), [-2]), ((PART, 1), [0, 0]), ((PART, 6), [0, 0]), ((PART, 7), [-2]),
            ((JOIN, 4, 0), [-2]), ((JOIN, 4, 1), [0]), ((JOIN, 4, 6), [0]), ((JOIN, 4, 7), [-2]),
        )

    def test_what_changes_an_amount(self):
        self.check(
            ((HURT, 1, 0, 0), [0, 0]), ((HURT, 1, MOST, 1), [0, MOST]), ((HURT, 6, MOST, 0), [0, 0]),
            ((COUNT, 1, -MOST, MOST), [0, 0, MOST]), ((COUNT, 1, MOST, -MOST), [0, MOST, 0]),
            ((STAND, 1, MOST), [0, MOST]), ((STAND, 6, -MOST), [0, 0]),
            ((WARD, 1, MOST), [0, MOST]), ((WARD, 2, -MOST), [0, 0]),
            ((LIFE, 0, -MOST), [0, -MOST]), ((LIFE, 1, MOST), [0, MOST]),
            ((MARKS, 0, -MOST), [0, 0]), ((MARKS, 1, MOST), [0, MOST]),
        )

    def test_the_greatest_numbers_are_kept_as_they_are(self):
        field = field_after((BEGIN, MOST, MOST - 1), (ADD, 1, 4, MOST, 65535, MOST, MOST, MOST),
                            (BUFF, 1, 2, 65535, 65535, 1, MOST, 65535), (LEND, 1, MOST, 65535),
                            (FIT, 1, 2, 65535, 65535, 31))
        self.assertEqual([side.life for side in field.sides], [MOST, MOST - 1])
        thing = picture(field.things[1])
        self.assertEqual([thing[each] for each in ("side", "kind", "name", "qualities", "toughness", "wards",
                                                   "standing")], [1, 4, MOST, 65535, MOST, MOST, MOST])
        self.assertEqual(list(thing["buff"].values()), [2, 65535, 65535, 1, MOST, 65535])
        self.assertEqual(list(thing["loan"].values()), [MOST, 65535])
        self.assertEqual(list(thing["fit"].values()), [2, 65535, 65535, 31])
