"""Each refusal, which one is answered where two are due, and that a refused call changes nothing."""

import unittest

from tests.helper import (ADD, BEGIN, BUFF, COUNT, DRY, FIT, GREATEST, HURT, JOIN, LEAST, LEND, LIFE, MARKS, PART,
                          SIX_THINGS, STAND, TAKEN_CALLS, THING_PLACES, WARD, ask, field_after, last, picture, tell)

# A field on which every thing and side has something of its own to lose.
USED_FIELD = ((BEGIN, 20, 30),) + SIX_THINGS + (
    (BUFF, 1, 1, 2, 3, 1, 4, 5), (LEND, 4, 2, 3), (FIT, 5, 1, 2, 3, 4), (JOIN, 4, 1), (JOIN, 5, 2), (HURT, 1, 2, 1),
    (HURT, 6, 1, 0), (COUNT, 3, 2, 1), (STAND, 6, 2), (WARD, 2, 2), (LIFE, 0, -3), (MARKS, 1, 4), (DRY, 1, 1))

FULL_FIELD = tuple((ADD, k % 2, k % 5, 0, 0, 1, 0, 0) for k in range(64))
GOOD_ADD = (ADD, 0, 0, 0, 0, 1, 0, 0)
GOOD_NUMBERS = {call: (call, *numbers) for call, (numbers, _) in TAKEN_CALLS.items()}


class RefusalCase(unittest.TestCase):
    def check(self, number, call, before=USED_FIELD, result=0):
        """The call is refused with this number alone, and the field is as it was."""
        with self.subTest(call=call, result=result):
            field = field_after(*before)
            field.result = result
            was = picture(field)
            self.assertEqual(tell(field, call), [number])
            self.assertEqual(picture(field), was)
            if result == 0:
                self.assertEqual(last(*before, call), [number])


class EachRefusal(RefusalCase):
    def test_a_thing_that_is_not_there(self):
        for call, places in THING_PLACES.items():
            for place in places:
                for n in (0, 7, 64, 1000000000):
                    numbers = list(GOOD_NUMBERS[call])
                    numbers[1 + place] = n
                    self.check(-2, tuple(numbers))

    def test_a_thing_is_not_there_before_it_is_added(self):
        self.assertEqual(ask((PART, 1), GOOD_ADD, (PART, 1), (PART, 2), GOOD_ADD, (PART, 2)),
                         [[-2], [0, 1], [0, 0], [-2], [0, 2], [0, 0]])

    def test_a_thing_is_not_there_after_begin(self):
        self.assertEqual(ask(GOOD_ADD, (BEGIN, 1, 1), (PART, 1), (HURT, 1, 1, 0)), [[0, 1], [0], [-2], [-2]])

    def test_a_result(self):
        for result in (1, 2, 3):
            for call, numbers in GOOD_NUMBERS.items():
                if call != BEGIN:
                    self.check(-3, numbers, result=result)

    def test_join_is_for_auras_and_gears(self):
        for n in (1, 2, 3, 6):
            self.check(-4, (JOIN, n, 4))
        for n in (4, 5):
            self.assertEqual(last(*USED_FIELD, (JOIN, n, 1)), [0])

    def test_hurt_is_for_beings_and_posts(self):
        for n in (3, 4, 5):
            for k, poison in ((0, 0), (1, 0), (1, 1)):
                self.check(-4, (HURT, n, k, poison))
        for n in (1, 2, 6):
            self.assertEqual(last(*USED_FIELD, (HURT, n, 1, 1))[0], 0)

    def test_64_things_are_there(self):
        self.check(-5, GOOD_ADD, before=FULL_FIELD)
        for kind in range(5):
            self.check(-5, (ADD, 1, kind, 3, 8, -1, 2, 2), before=FULL_FIELD)
        self.assertEqual(last(*FULL_FIELD[:63], GOOD_ADD), [0, 64])

    def test_64_things_hinder_nothing_but_add(self):
        for call in ((BUFF, 64, 0, 0, 0, 0, 0, 0), (LEND, 64, 0, 0), (FIT, 64, 0, 0, 0, 0), (JOIN, 64, 63),
                     (HURT, 61, 1, 0), (COUNT, 64, 1, 1), (LIFE, 0, 1), (BEGIN, 1, 1)):
            self.assertEqual(last(*FULL_FIELD, call)[0], 0)

    def test_begin_makes_room_again(self):
        self.assertEqual(ask(*FULL_FIELD, GOOD_ADD, (BEGIN, 1, 1), GOOD_ADD)[64:], [[-5], [0], [0, 1]])

    def test_a_thing_attached_to_itself(self):
        for n in (4, 5):
            self.check(-6, (JOIN, n, n))


class TwoRefusals(RefusalCase):
    def test_range_and_not_there(self):
        for number in (LEAST, -1000000001, 1000000001, GREATEST):
            for call, places in THING_PLACES.items():
                for wrong in range(len(GOOD_NUMBERS[call]) - 1):
                    for place in places:
                        numbers = list(GOOD_NUMBERS[call])
                        numbers[1 + place] = 7
                        numbers[1 + wrong] = number
                        self.check(-1, tuple(numbers))

    def test_range_and_result(self):
        for call, numbers in GOOD_NUMBERS.items():
            for wrong in range(1, len(numbers)):
                self.check(-1, numbers[:wrong] + (GREATEST,) + numbers[wrong + 1:], result=2)

    def test_range_and_kind(self):
        self.check(-1, (JOIN, 1, -1))
        self.check(-1, (JOIN, 6, 1000000001))
        self.check(-1, (HURT, 3, -1, 0))
        self.check(-1, (HURT, 4, 1, 2))

    def test_range_and_full(self):
        for wrong in range(1, len(GOOD_ADD)):
            self.check(-1, GOOD_ADD[:wrong] + (GREATEST,) + GOOD_ADD[wrong + 1:], before=FULL_FIELD)

    def test_range_and_itself(self):
        for n in (-1, 1000000001, LEAST, GREATEST):
            self.check(-1, (JOIN, n, n))

    def test_not_there_and_result(self):
        for result in (1, 2, 3):
            for call, places in THING_PLACES.items():
                for place in places:
                    numbers = list(GOOD_NUMBERS[call])
                    numbers[1 + place] = 7
                    self.check(-2, tuple(numbers), result=result)

    def test_not_there_and_kind(self):
        for n in (1, 2, 3, 6):
            for h in (0, 7):
                self.check(-2, (JOIN, n, h))

    def test_not_there_and_itself(self):
        for n in (0, 7, 1000000000):
            self.check(-2, (JOIN, n, n))

    def test_result_and_kind(self):
        for result in (1, 2, 3):
            self.check(-3, (JOIN, 1, 4), result=result)
            self.check(-3, (HURT, 3, 1, 0), result=result)

    def test_result_and_full(self):
        for result in (1, 2, 3):
            self.check(-3, GOOD_ADD, before=FULL_FIELD, result=result)

    def test_result_and_itself(self):
        for result in (1, 2, 3):
            self.check(-3, (JOIN, 4, 4), result=result)

    def test_kind_and_itself(self):
        for n in (1, 2, 3, 6):
            self.check(-4, (JOIN, n, n))


class NothingChanges(unittest.TestCase):
    """The same, as the answers behind the refused call show it."""

    def test_a_refused_add_uses_no_number(self):
        told = ask(GOOD_ADD, (ADD, 2, 0, 0, 0, 1, 0, 0), (ADD, 0, 0, 0, 0, 1, 0, -1), GOOD_ADD)
        self.assertEqual(told, [[0, 1], [-1], [-1], [0, 2]])

    def test_a_refused_begin_keeps_what_is_there(self):
        told = ask((BEGIN, 5, 6), GOOD_ADD, (MARKS, 1, 2), (BEGIN, 7, -1), (BEGIN, 1000000001, 7), (LIFE, 0, 0),
                   (LIFE, 1, 0), (MARKS, 1, 0), GOOD_ADD)
        self.assertEqual(told[3:], [[-1], [-1], [0, 5], [0, 6], [0, 2], [0, 2]])

    def test_a_refused_join_keeps_the_host(self):
        for call in ((JOIN, 4, 4), (JOIN, 4, 7), (JOIN, 4, -1)):
            self.assertEqual(ask(*SIX_THINGS, (JOIN, 4, 2), call, (PART, 4))[-1], [0, 2])

    def test_a_refused_count_changes_neither(self):
        told = ask(*SIX_THINGS, (COUNT, 3, 2, 3), (COUNT, 3, 1, 1000000001), (COUNT, 3, -1000000001, 1), (COUNT, 3, 0, 0))
        self.assertEqual(told[6:], [[0, 2, 3], [-1], [-1], [0, 2, 3]])

    def test_refused_amounts(self):
        told = ask(*SIX_THINGS, (HURT, 1, 1, 2), (HURT, 1, 0, 0), (HURT, 6, 1, -1), (HURT, 6, 0, 0), (STAND, 6, GREATEST),
                   (STAND, 6, 0), (WARD, 2, LEAST), (WARD, 2, 0), (LIFE, 0, LEAST), (LIFE, 0, 0), (MARKS, 0, GREATEST),
                   (MARKS, 0, 0))
        self.assertEqual(told[6:], [[-1], [0, 0], [-1], [0, 5], [-1], [0, 5], [-1], [0, 1], [-1], [0, 0], [-1], [0, 0]])
