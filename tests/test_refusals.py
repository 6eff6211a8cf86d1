"""Each refusal, which one is answered where two are due, and that a refused call changes nothing."""

import unittest

from tests.helper import (ADD, BEGIN, BUFF, COUNT, DROP, DRY, DUE, FIT, GIVE, GREATEST, GROUP, HOSTS, HURT, JOIN, LEAST,
                          LEND, LIFE, LOOK, MARKS, MEND, PART, REST, ROUND, SIDES, SIX_THINGS, STAND, TAKEN_CALLS,
                          TAKEN_WITH_A_RESULT, THING_PLACES, THINGS, USED_FIELD, USED_FIELD_WITH_RESULT, VOID, WARD,
                          WHY, ask, due, last, view_calls)

FULL_FIELD = tuple((ADD, k % 2, k % 5, 0, 0, 1, 0, 0) for k in range(64))
GOOD_ADD = (ADD, 0, 0, 0, 0, 1, 0, 0)
GOOD_CALLS = {call: (call, *numbers) for call, (numbers, _) in TAKEN_CALLS.items()}
NOT_THERE = (0, 7, 8, 64, 1000000000)
NOT_GONE = (0, 1, 2, 3, 4, 5, 6, 8, 64, 1000000000)


def with_number(call, place, number):
    """The good call with one of its numbers put in the place of another."""
    numbers = list(GOOD_CALLS[call])
    numbers[1 + place] = number
    return tuple(numbers)


def calls_for_what_is_not_there():
    places = [(call, place) for call in THING_PLACES for place in THING_PLACES[call]]
    found = [with_number(call, place, n) for call, place in places for n in NOT_THERE]
    return found + [(WHY, n) for n in NOT_GONE]


class RefusalCase(unittest.TestCase):
    def check(self, number, call, before=USED_FIELD):
        """The call is refused with this number alone, and all that can be asked is as it was."""
        with self.subTest(call=call):
            views = view_calls(8)
            told = ask(*before, *views, call, *views)[len(before):]
            self.assertEqual(told[len(views)], [number])
            self.assertEqual(told[:len(views)], told[len(views) + 1:])

    def check_with_each_result(self, number, call):
        for before in USED_FIELD_WITH_RESULT.values():
            self.check(number, call, before)


class TheFieldsUsedHere(unittest.TestCase):
    def test_nothing_is_due_of_the_things_so_a_round_leaves_them(self):
        self.assertEqual(due(*USED_FIELD), [])
        for result, calls in USED_FIELD_WITH_RESULT.items():
            told = ask(*calls, (THINGS,), (SIDES,))
            self.assertEqual(told[-2:], [[0, 1, 2, 3, 4, 5, 6], told[-1][:7] + [result]])

    def test_every_good_call_is_taken(self):
        for call in GOOD_CALLS.values():
            self.assertEqual(last(*USED_FIELD, call)[0], 0, call)


class EachRefusal(RefusalCase):
    def test_a_thing_that_is_not_there(self):
        for call in calls_for_what_is_not_there():
            self.check(-2, call)

    def test_a_thing_that_is_dropped_is_not_there(self):
        for call, places in THING_PLACES.items():
            for place in places:
                n = GOOD_CALLS[call][1 + place]
                self.assertEqual(ask(*USED_FIELD, (DROP, n), GOOD_CALLS[call])[-2:], [[0], [-2]])

    def test_a_thing_that_went_in_a_round_is_not_there(self):
        gone = (GOOD_ADD, (HURT, 1, 1, 0), (LIFE, 0, 1), (LIFE, 1, 1), (REST,))
        for call in ((DROP, 1), (GIVE, 1, 0), (LOOK, 1), (GROUP, 1), (HOSTS, 1), (HURT, 1, 1, 0), (PART, 1)):
            self.assertEqual(last(*gone, call), [-2])
        self.assertEqual(last(*gone, (WHY, 1)), [0, 0, 3])

    def test_a_thing_is_not_there_before_it_is_added(self):
        self.assertEqual(ask((PART, 1), GOOD_ADD, (PART, 1), (PART, 2), GOOD_ADD, (PART, 2)),
                         [[-2], [0, 1], [0, 0], [-2], [0, 2], [0, 0]])

    def test_a_thing_is_not_there_after_begin(self):
        self.assertEqual(ask(GOOD_ADD, (BEGIN, 1, 1), (PART, 1), (HURT, 1, 1, 0)), [[0, 1], [0], [-2], [-2]])

    def test_a_result(self):
        for call, numbers in GOOD_CALLS.items():
            if call not in TAKEN_WITH_A_RESULT:
                self.check_with_each_result(-3, numbers)

    def test_what_a_result_does_not_hinder(self):
        for before in USED_FIELD_WITH_RESULT.values():
            for call in TAKEN_WITH_A_RESULT:
                self.assertEqual(last(*before, GOOD_CALLS[call])[0], 0)

    def test_without_a_result_none_of_these_is_refused(self):
        for call in ((MEND,), (ROUND,), (REST,), (DUE,), (THINGS,), (SIDES,), (VOID, 0), (VOID, 1)):
            self.assertEqual(last(*USED_FIELD, call)[0], 0)
            self.assertEqual(last(call)[0], 0)

    def test_join_is_for_auras_and_gears(self):
        for n in (1, 2, 3, 6):
            self.check(-4, (JOIN, n, 4))
        for n in (4, 5):
            self.assertEqual(last(*USED_FIELD, (JOIN, n, 1)), [0])

    def test_hurt_is_for_beings_and_posts(self):
        for n in (3, 4, 5):
            for k, poison in ((0, 0), (1, 0), (1, 1)):
                self.check(-4, (HURT, n, k, poison))
        for n in (1, 2, 6):
            self.assertEqual(last(*USED_FIELD, (HURT, n, 1, 1))[0], 0)

    def test_64_things_are_there(self):
        self.check(-5, GOOD_ADD, before=FULL_FIELD)
        for kind in range(5):
            self.check(-5, (ADD, 1, kind, 3, 8, -1, 2, 2), before=FULL_FIELD)
        self.assertEqual(last(*FULL_FIELD[:63], GOOD_ADD), [0, 64])

    def test_64_things_hinder_nothing_but_add(self):
        for call in ((BUFF, 64, 0, 0, 0, 0, 0, 0), (LEND, 64, 0, 0), (FIT, 64, 0, 0, 0, 0), (JOIN, 64, 63),
                     (HURT, 61, 1, 0), (COUNT, 64, 1, 1), (LIFE, 0, 1), (BEGIN, 1, 1)):
            self.assertEqual(last(*FULL_FIELD, call)[0], 0)

    def test_begin_makes_room_again(self):
        self.assertEqual(ask(*FULL_FIELD, GOOD_ADD, (BEGIN, 1, 1), GOOD_ADD)[64:], [[-5], [0], [0, 1]])

    def test_what_goes_makes_room_again(self):
        told = ask(*FULL_FIELD, GOOD_ADD, (DROP, 7), GOOD_ADD, GOOD_ADD, (DROP, 65), (DROP, 1), *[GOOD_ADD] * 3)
        self.assertEqual(told[64:], [[-5], [0], [0, 65], [-5], [0], [0], [0, 66], [0, 67], [-5]])

    def test_what_goes_in_a_round_makes_room_again(self):
        told = ask((BEGIN, 1, 1), *FULL_FIELD, GOOD_ADD, (REST,), *[GOOD_ADD] * 27)[65:]
        # The 13 auras are attached to nothing, the 12 posts have no standing.
        self.assertEqual((told[0], told[1][:4]), ([-5], [0, 0, 1, 25]))
        self.assertEqual(told[2:], [[0, n] for n in range(65, 90)] + [[-5], [-5]])

    def test_a_thing_attached_to_itself(self):
        for n in (4, 5):
            self.check(-6, (JOIN, n, n))


class TwoRefusals(RefusalCase):
    def test_range_and_not_there(self):
        for number in (LEAST, -1000000001, 1000000001, GREATEST):
            for call, places in THING_PLACES.items():
                for wrong in range(len(GOOD_CALLS[call]) - 1):
                    for place in places:
                        numbers = list(GOOD_CALLS[call])
                        numbers[1 + place] = 7
                        numbers[1 + wrong] = number
                        self.check(-1, tuple(numbers))

    def test_range_and_result(self):
        for call, numbers in GOOD_CALLS.items():
            for place in range(len(numbers) - 1):
                for number in (LEAST, GREATEST):
                    self.check_with_each_result(-1, with_number(call, place, number))

    def test_range_and_kind(self):
        self.check(-1, (JOIN, 1, -1))
        self.check(-1, (JOIN, 6, 1000000001))
        self.check(-1, (HURT, 3, -1, 0))
        self.check(-1, (HURT, 4, 1, 2))

    def test_range_and_full(self):
        for wrong in range(1, len(GOOD_ADD)):
            self.check(-1, GOOD_ADD[:wrong] + (GREATEST,) + GOOD_ADD[wrong + 1:], before=FULL_FIELD)

    def test_range_and_itself(self):
        for n in (-1, 1000000001, LEAST, GREATEST):
            self.check(-1, (JOIN, n, n))

    def test_not_there_and_result(self):
        for call in calls_for_what_is_not_there():
            self.check_with_each_result(-2, call)

    def test_not_there_and_kind(self):
        for n in (1, 2, 3, 6):
            for h in (0, 7):
                self.check(-2, (JOIN, n, h))

    def test_not_there_and_itself(self):
        for n in (0, 7, 1000000000):
            self.check(-2, (JOIN, n, n))

    def test_result_and_kind(self):
        self.check_with_each_result(-3, (JOIN, 1, 4))
        self.check_with_each_result(-3, (HURT, 3, 1, 0))

    def test_result_and_full(self):
        relics = tuple((ADD, 0, 1, 0, 0, 1, 0, 0) for _ in range(64))
        for turns in (((DRY, 0, 1),), ((DRY, 1, 1),), ((DRY, 0, 1), (DRY, 1, 1))):
            lost = (*relics, *turns, (ROUND,))
            self.assertEqual(len(last(*lost, (THINGS,))), 1 + 64)
            self.check(-3, GOOD_ADD, lost)

    def test_result_and_itself(self):
        self.check_with_each_result(-3, (JOIN, 4, 4))
        self.check_with_each_result(-3, (JOIN, 5, 5))

    def test_kind_and_itself(self):
        for n in (1, 2, 3, 6):
            self.check(-4, (JOIN, n, n))


class ThreeAndMoreRefusals(RefusalCase):
    def test_all_that_can_be_due_of_join(self):
        self.check_with_each_result(-1, (JOIN, -1, -1))
        self.check_with_each_result(-2, (JOIN, 7, 7))
        self.check_with_each_result(-3, (JOIN, 1, 1))
        self.check(-4, (JOIN, 1, 1))

    def test_all_that_can_be_due_of_the_others(self):
        self.check_with_each_result(-1, (HURT, 7, -1, 2))
        self.check_with_each_result(-2, (HURT, 7, 1, 0))
        self.check_with_each_result(-3, (HURT, 4, 1, 0))
        self.check_with_each_result(-1, (DROP, GREATEST))
        self.check_with_each_result(-1, (GIVE, 7, 2))
        self.check_with_each_result(-2, (GIVE, 7, 1))
        self.check_with_each_result(-2, (DROP, 7))
        relics = tuple((ADD, 0, 1, 0, 0, 1, 0, 0) for _ in range(64)) + ((ROUND,),)
        self.check(-1, (ADD, 0, 5, 0, 0, 1, 0, 0), relics)


class NothingChanges(unittest.TestCase):
    """The same, as later calls show it."""

    def test_a_refused_add_uses_no_number(self):
        told = ask(GOOD_ADD, (ADD, 2, 0, 0, 0, 1, 0, 0), (ADD, 0, 0, 0, 0, 1, 0, -1), GOOD_ADD)
        self.assertEqual(told, [[0, 1], [-1], [-1], [0, 2]])

    def test_a_refused_begin_keeps_what_is_there(self):
        told = ask((BEGIN, 5, 6), GOOD_ADD, (MARKS, 1, 2), (BEGIN, 7, -1), (BEGIN, 1000000001, 7), (LIFE, 0, 0),
                   (LIFE, 1, 0), (MARKS, 1, 0), GOOD_ADD)
        self.assertEqual(told[3:], [[-1], [-1], [0, 5], [0, 6], [0, 2], [0, 2]])

    def test_a_refused_join_keeps_the_host(self):
        for call in ((JOIN, 4, 4), (JOIN, 4, 7), (JOIN, 4, -1)):
            self.assertEqual(ask(*SIX_THINGS, (JOIN, 4, 2), call, (PART, 4))[-1], [0, 2])

    def test_a_refused_count_changes_neither(self):
        told = ask(*SIX_THINGS, (COUNT, 3, 2, 3), (COUNT, 3, 1, 1000000001), (COUNT, 3, -1000000001, 1),
                   (COUNT, 3, 0, 0))
        self.assertEqual(told[6:], [[0, 2, 3], [-1], [-1], [0, 2, 3]])

    def test_refused_amounts(self):
        told = ask(*SIX_THINGS, (HURT, 1, 1, 2), (HURT, 1, 0, 0), (HURT, 6, 1, -1), (HURT, 6, 0, 0),
                   (STAND, 6, GREATEST), (STAND, 6, 0), (WARD, 2, LEAST), (WARD, 2, 0), (LIFE, 0, LEAST), (LIFE, 0, 0),
                   (MARKS, 0, GREATEST), (MARKS, 0, 0))
        self.assertEqual(told[6:], [[-1], [0, 0], [-1], [0, 5], [-1], [0, 5], [-1], [0, 1], [-1], [0, 0], [-1], [0, 0]])

    def test_a_refused_drop_or_give_or_mend(self):
        hurt = (*SIX_THINGS, (HURT, 1, 1, 0))
        told = ask(*hurt, (DROP, 7), (GIVE, 1, 2), (THINGS,), (LOOK, 1))
        self.assertEqual(told[7:], [[-2], [-1], [0, 1, 2, 3, 4, 5, 6], last(*hurt, (LOOK, 1))])
        lost = (*hurt, (LIFE, 0, 1), (ROUND,))
        told = ask(*lost, (LOOK, 1), (MEND,), (DROP, 1), (GIVE, 1, 1), (ROUND,), (REST,), (LOOK, 1))[len(lost):]
        self.assertEqual(told[1:], [[-3], [-3], [-3], [-3], [-3], told[0]])

    def test_a_refused_round_and_rest_leave_what_is_due(self):
        # The host goes in the round that brings the result, so the aura on it would go in the next one.
        lost = (*SIX_THINGS, (LIFE, 1, 1), (JOIN, 4, 1), (HURT, 1, 2, 0), (ROUND,))
        told = ask(*lost, (DUE,), (ROUND,), (REST,), (THINGS,), (DUE,), (SIDES,))[len(lost):]
        self.assertEqual(told, [[0, 2, 1, 0, 7, 4], [-3], [-3], [0, 2, 3, 4, 5, 6], [0, 2, 1, 0, 7, 4],
                                [0, 0, 1, 0, 0, 0, 0, 1]])

    def test_what_a_refused_buff_loan_and_fit_would_have_set(self):
        for call, wrong in ((BUFF, (1, 0, 0, 0, 0, 5, 65536)), (LEND, (4, 5, 65536)), (FIT, (4, 0, 0, 0, 32))):
            good = (*SIX_THINGS, (JOIN, 4, 1), (LEND, 4, 1, 16), (BUFF, 1, 1, 0, 0, 0, 1, 32), (FIT, 4, 1, 0, 0, 1))
            asked = ((LOOK, 1), (LOOK, 2), (GROUP, 1), (HOSTS, 4))
            told = ask(*good, *asked, (call, *wrong), *asked)[len(good):]
            self.assertEqual(told[4], [-1])
            self.assertEqual(told[:4], told[5:])
