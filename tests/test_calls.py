"""Each of the calls 0 to 13 with ordinary numbers, its whole answer, and what it changes."""

import unittest

from restfield.field import answers
from tests.helper import (ADD, AURA, BEGIN, BEING, BUFF, COUNT, DROP, DRY, FIT, GEAR, GROUP, HOSTS, HURT, JOIN, LEND,
                          LIFE, LOOK, MARKS, PART, POST, RELIC, SHUNS, SIDES, SIX_THINGS, STAND, THINGS, USED_FIELD,
                          USED_FIELD_WITH_RESULT, VOID, WARD, WHY, ask, last, seen, view)


class Begin(unittest.TestCase):
    def test_answers_0_and_sets_the_lives(self):
        told = ask((BEGIN, 20, 30), (LIFE, 0, 0), (LIFE, 1, 0))
        self.assertEqual(told, [[0], [0, 20], [0, 30]])

    def test_a_line_begins_as_after_begin_0_0(self):
        told = ask((LIFE, 0, 0), (LIFE, 1, 0), (MARKS, 0, 0), (MARKS, 1, 0), (ADD, 0, BEING, 0, 0, 1, 0, 0))
        self.assertEqual(told, [[0, 0], [0, 0], [0, 0], [0, 0], [0, 1]])
        self.assertEqual(view(3), view(3, (BEGIN, 0, 0)))
        self.assertEqual(ask((SIDES,), (THINGS,), (VOID, 0), (VOID, 1)), [[0, 0, 0, 0, 0, 0, 0, 0], [0], [0], [0]])

    def test_makes_everything_new(self):
        told = ask(*SIX_THINGS, (MARKS, 0, 4), (MARKS, 1, 5), (LIFE, 1, 6), (BEGIN, 1, 2), (PART, 1), (LIFE, 0, 0),
                   (LIFE, 1, 0), (MARKS, 0, 0), (MARKS, 1, 0), (ADD, 1, POST, 0, 0, 0, 0, 7), (PART, 2))
        self.assertEqual(told[9:], [[0], [-2], [0, 1], [0, 2], [0, 0], [0, 0], [0, 1], [-2]])

    def test_leaves_nothing_of_what_was(self):
        new = view(8, (BEGIN, 5, 6))
        self.assertEqual(new[:4], [[0, 5, 6, 0, 0, 0, 0, 0], [0], [0], [0]])
        self.assertEqual(view(8, *USED_FIELD, (DRY, 0, 1), (DRY, 1, 1), (BEGIN, 5, 6)), new)

    def test_is_taken_and_ends_the_result_when_there_is_one(self):
        for result, calls in USED_FIELD_WITH_RESULT.items():
            self.assertEqual(ask(*calls, (SIDES,), (BEGIN, 5, 6))[-2:], [last(*calls, (SIDES,)), [0]])
            self.assertEqual(last(*calls, (SIDES,))[-1], result)
            self.assertEqual(view(8, *calls, (BEGIN, 5, 6)), view(8, (BEGIN, 5, 6)))

    def test_what_is_gone_is_forgotten_and_the_numbers_begin_anew(self):
        told = ask(*SIX_THINGS, (DROP, 2), (BEGIN, 1, 1), (VOID, 1), (WHY, 2), *SIX_THINGS[:2], (WHY, 2), (THINGS,))
        self.assertEqual(told[7:], [[0], [0], [-2], [0, 1], [0, 2], [-2], [0, 1, 2]])


class Add(unittest.TestCase):
    def test_numbers_run_from_1_for_both_sides_and_every_kind(self):
        self.assertEqual(ask(*SIX_THINGS), [[0, 1], [0, 2], [0, 3], [0, 4], [0, 5], [0, 6]])

    def test_wards_and_standing_are_as_added(self):
        told = ask((ADD, 1, RELIC, 0, 0, 0, 8, 9), (WARD, 1, 0), (STAND, 1, 0))
        self.assertEqual(told, [[0, 1], [0, 8], [0, 9]])

    def test_all_that_a_new_thing_has(self):
        new = (ADD, 1, GEAR, 5, 6, -7, 8, 9)
        self.assertEqual(last(new, (LOOK, 1)), [0, 1, GEAR, 5, 6, 6, -7, -7, 0, 0, 0, 0, 8, 9, 0])

    def test_a_new_things_buff_reaches_all_and_gives_nothing(self):
        told = ask(*SIX_THINGS, *[(GROUP, n) for n in range(1, 7)], (LOOK, 2))
        self.assertEqual(told[6:12], [[0, 1, 2, 3, 4, 5, 6]] * 6)
        self.assertEqual(told[12], [0, 1, BEING, 7, 8, 8, 3, 3, 0, 0, 0, 0, 1, 0, 0])

    def test_a_new_things_fit_is_for_all_and_its_loan_gives_nothing(self):
        told = ask(*SIX_THINGS, (HOSTS, 4), (HOSTS, 1), (JOIN, 4, 1), (LOOK, 1))
        self.assertEqual(told[6:8], [[0, 1, 2, 3, 5, 6], [0, 2, 3, 4, 5, 6]])
        self.assertEqual(told[9], [0, 0, BEING, 0, 0, 0, 2, 2, 0, 0, 0, 0, 0, 0, 0])

    def test_a_new_things_need_and_ban_leave_out_nothing(self):
        for own in (0, 1, 2, 8, 32768, 65535 - SHUNS):
            calls = ((ADD, 0, RELIC, 0, own, 0, 0, 0), (ADD, 1, RELIC, 0, own, 0, 0, 0))
            self.assertEqual(ask(*calls, (GROUP, 1), (GROUP, 2), (HOSTS, 1), (HOSTS, 2))[2:],
                             [[0, 1, 2], [0, 1, 2], [0, 2], [0, 1]])

    def test_numbers_are_not_given_again(self):
        told = ask(*SIX_THINGS[:3], (DROP, 3), SIX_THINGS[0], (DROP, 1), (DROP, 4), SIX_THINGS[0], (THINGS,))
        self.assertEqual(told[3:], [[0], [0, 4], [0], [0], [0, 5], [0, 2, 5]])

    def test_64_things_may_be_there(self):
        told = ask(*[(ADD, k % 2, k % 5, 0, 0, 1, 0, 0) for k in range(64)])
        self.assertEqual(told, [[0, k + 1] for k in range(64)])


class BuffLendFit(unittest.TestCase):
    def check_only_look_differs(self, n, parts, before, *calls):
        """Of all that can be asked, these calls change what look tells of n, and only these parts of it."""
        was, now = view(6, *before), view(6, *before, *calls)
        place = 5 + 4 * (n - 1)
        self.assertEqual([k for k in range(len(was)) if was[k] != now[k]], [place])
        self.assertEqual([k for k in range(15) if was[place][k] != now[place][k]], parts)

    def test_buff(self):
        calls = ((BUFF, 2, 2, 0, 0, 0, 9, 16), (BUFF, 2, 1, 8, 7, 0, -4, 32))
        self.assertEqual(ask(*SIX_THINGS, *calls)[6:], [[0], [0]])
        self.assertEqual(last(*SIX_THINGS, *calls, (GROUP, 2)), [0, 2])
        self.assertEqual(last(*SIX_THINGS, *calls, (LOOK, 2)), [0, 1, BEING, 7, 8, 40, 3, -1, 0, 0, 0, 0, 1, 0, 0])
        self.assertEqual(last(*SIX_THINGS, *calls, (LOOK, 1)), last(*SIX_THINGS, (LOOK, 1)))

    def test_lend(self):
        joined = SIX_THINGS + ((JOIN, 4, 1),)
        calls = ((LEND, 4, 9, 8), (LEND, 4, 3, 48))
        self.assertEqual(ask(*joined, *calls)[7:], [[0], [0]])
        self.assertEqual(last(*joined, *calls, (LOOK, 1)), [0, 0, BEING, 0, 0, 48, 2, 5, 0, 0, 0, 0, 0, 0, 0])
        self.check_only_look_differs(1, [5, 7], joined, *calls)

    def test_fit(self):
        calls = ((FIT, 5, 1, 0, 0, 1), (FIT, 5, 2, 0, 1, 7))
        told = ask(*SIX_THINGS, *calls, (HOSTS, 5), (HOSTS, 4))[6:]
        self.assertEqual(told, [[0], [0], [0, 1, 3, 4], [0, 1, 2, 3, 5, 6]])

    def test_each_kind_takes_them(self):
        for n in range(1, 7):
            told = ask(*SIX_THINGS, (BUFF, n, 0, 0, 0, 0, 0, 0), (LEND, n, 0, 0), (FIT, n, 0, 0, 0, 0))
            self.assertEqual(told[6:], [[0], [0], [0]])


class JoinPart(unittest.TestCase):
    def test_aura_and_gear_join_and_part(self):
        told = ask(*SIX_THINGS, (JOIN, 4, 2), (JOIN, 5, 6), (PART, 4), (PART, 4), (PART, 5), (PART, 5))
        self.assertEqual(told[6:], [[0], [0], [0, 2], [0, 0], [0, 6], [0, 0]])

    def test_a_second_join_takes_the_place_of_the_first(self):
        self.assertEqual(last(*SIX_THINGS, (JOIN, 4, 1), (JOIN, 4, 3), (PART, 4)), [0, 3])

    def test_two_may_be_attached_to_one_another(self):
        told = ask(*SIX_THINGS, (JOIN, 4, 5), (JOIN, 5, 4), (PART, 4), (PART, 5))
        self.assertEqual(told[6:], [[0], [0], [0, 5], [0, 4]])

    def test_join_asks_neither_the_fit_nor_whether_the_host_shuns(self):
        shunning = (ADD, 1, BEING, 0, 4, 1, 0, 0)
        told = ask(*SIX_THINGS, shunning, (FIT, 4, 1, 65535, 65535, 0), (JOIN, 4, 7), (PART, 4))
        self.assertEqual(told[7:], [[0], [0], [0, 7]])

    def test_part_takes_a_thing_of_any_kind(self):
        for n in (1, 2, 3, 6):
            self.assertEqual(last(*SIX_THINGS, (PART, n)), [0, 0])

    def test_host_is_changed_and_nothing_else(self):
        self.assertEqual(seen(4, *SIX_THINGS, (JOIN, 4, 2)), {**seen(4, *SIX_THINGS), "host": 2})
        for n in (1, 2, 3, 5, 6):
            self.assertEqual(seen(n, *SIX_THINGS, (JOIN, 4, 2)), seen(n, *SIX_THINGS))
        self.assertEqual(view(6, *SIX_THINGS, (JOIN, 4, 2), (PART, 4)), view(6, *SIX_THINGS))


class Hurt(unittest.TestCase):
    def test_a_beings_damage_grows(self):
        told = ask(*SIX_THINGS, (HURT, 1, 3, 0), (HURT, 1, 4, 1), (HURT, 2, 1, 0), (HURT, 1, 0, 0))
        self.assertEqual(told[6:], [[0, 3], [0, 7], [0, 1], [0, 7]])

    def test_a_beings_standing_and_wards_stay(self):
        being = (ADD, 0, BEING, 0, 0, 2, 6, 9)
        self.assertEqual(ask(being, (HURT, 1, 3, 1), (STAND, 1, 0), (WARD, 1, 0)), [[0, 1], [0, 3], [0, 9], [0, 6]])

    def test_a_posts_standing_falls(self):
        told = ask(*SIX_THINGS, (HURT, 6, 2, 0), (HURT, 6, 0, 1), (HURT, 6, 1, 1), (STAND, 6, 0))
        self.assertEqual(told[6:], [[0, 3], [0, 3], [0, 2], [0, 2]])

    def test_a_post_has_no_damage_and_is_not_poisoned(self):
        self.assertEqual(seen(6, *SIX_THINGS, (HURT, 6, 2, 1)), {**seen(6, *SIX_THINGS), "standing": 3})

    def test_poison(self):
        for hurts, poisoned in ((((1, 0),), 0), (((0, 1),), 0), (((1, 1),), 1), (((1, 1), (1, 0)), 1),
                                (((1, 1), (0, 0)), 1), (((1, 0), (2, 1)), 1), (((1, 0), (0, 1)), 0)):
            with self.subTest(hurts=hurts):
                calls = [(HURT, 1, k, poison) for k, poison in hurts]
                expected = {"damage": sum(k for k, _ in hurts), "poisoned": poisoned}
                self.assertEqual(seen(1, *SIX_THINGS, *calls), {**seen(1, *SIX_THINGS), **expected})
                self.assertEqual(seen(2, *SIX_THINGS, *calls), seen(2, *SIX_THINGS))


class Amounts(unittest.TestCase):
    def test_count(self):
        told = ask(*SIX_THINGS, (COUNT, 3, 5, 2), (COUNT, 3, -1, 4), (COUNT, 3, 0, 0), (COUNT, 1, 0, 7))
        self.assertEqual(told[6:], [[0, 5, 2], [0, 4, 6], [0, 4, 6], [0, 0, 7]])

    def test_stand(self):
        told = ask(*SIX_THINGS, (STAND, 6, 4), (STAND, 6, -2), (STAND, 6, 0), (STAND, 1, 3))
        self.assertEqual(told[6:], [[0, 9], [0, 7], [0, 7], [0, 3]])

    def test_ward(self):
        told = ask(*SIX_THINGS, (WARD, 2, 4), (WARD, 2, -2), (WARD, 2, 0), (WARD, 1, 3))
        self.assertEqual(told[6:], [[0, 5], [0, 3], [0, 3], [0, 3]])

    def test_each_kind_takes_them(self):
        for kind in (BEING, RELIC, AURA, GEAR, POST):
            told = ask((ADD, 0, kind, 0, 0, 0, 0, 0), (COUNT, 1, 1, 2), (STAND, 1, 3), (WARD, 1, 4))
            self.assertEqual(told, [[0, 1], [0, 1, 2], [0, 3], [0, 4]])

    def test_they_are_kept_apart(self):
        told = ask((ADD, 0, BEING, 0, 0, 0, 0, 0), (COUNT, 1, 1, 2), (STAND, 1, 3), (WARD, 1, 4), (HURT, 1, 5, 0),
                   (COUNT, 1, 0, 0), (STAND, 1, 0), (WARD, 1, 0), (HURT, 1, 0, 0))
        self.assertEqual(told[5:], [[0, 1, 2], [0, 3], [0, 4], [0, 5]])


class LifeMarksDry(unittest.TestCase):
    def test_life(self):
        told = ask((BEGIN, 20, 30), (LIFE, 0, -5), (LIFE, 1, 5), (LIFE, 0, 1), (LIFE, 1, 0))
        self.assertEqual(told, [[0], [0, 15], [0, 35], [0, 16], [0, 35]])

    def test_marks(self):
        told = ask((MARKS, 0, 3), (MARKS, 1, 10), (MARKS, 0, -1), (MARKS, 1, 0))
        self.assertEqual(told, [[0, 3], [0, 10], [0, 2], [0, 10]])

    def test_life_and_marks_are_kept_apart(self):
        self.assertEqual(ask((LIFE, 0, 3), (MARKS, 0, 4), (LIFE, 0, 0)), [[0, 3], [0, 4], [0, 3]])

    def test_dry(self):
        self.assertEqual(ask((DRY, 0, 1), (DRY, 1, 0), (DRY, 0, 0)), [[0], [0], [0]])
        for turns, expected in (((), [0, 0]), (((0, 1),), [1, 0]), (((1, 1),), [0, 1]), (((0, 1), (0, 0)), [0, 0]),
                                (((0, 1), (1, 1), (1, 1)), [1, 1])):
            told = last(*[(DRY, p, v) for p, v in turns], (SIDES,))
            self.assertEqual(told, [0, 0, 0, 0, 0, *expected, 0])

    def test_a_life_of_0_marks_and_being_dry_bring_no_result_by_themselves(self):
        told = ask((BEGIN, 0, 0), (LIFE, 0, -1), (MARKS, 1, 10), (DRY, 0, 1), (DRY, 1, 1), (LIFE, 1, 0), (SIDES,))
        self.assertEqual(told, [[0], [0, -1], [0, 10], [0], [0], [0, 0], [0, -1, 0, 0, 10, 1, 1, 0]])


class OneList(unittest.TestCase):
    def test_every_call_in_one_list_with_the_counts_as_they_stand(self):
        calls = [0, 20, 30,  1, 0, 0, 0, 0, 2, 1, 0,  1, 1, 2, 9, 8, 0, 0, 0,  2, 1, 1, 0, 0, 1, 1, 0,  3, 2, 1, 1,
                 4, 2, 2, 0, 0, 1,  5, 2, 1,  5, 1, 2,  6, 2,  7, 1, 3, 1,  7, 2, 3, 1,  8, 1, 2, -1,  9, 1, 4,
                 10, 1, -5,  11, 1, -40,  12, 0, 11,  13, 1, 1,  13, 2, 1]
        self.assertEqual(answers(calls), [1, 0,  2, 0, 1,  2, 0, 2,  1, 0,  1, 0,  1, 0,  1, 0,  1, -4,  2, 0, 1,
                                          2, 0, 3,  1, -4,  3, 0, 2, 0,  2, 0, 4,  2, 0, 0,  2, 0, -10,  2, 0, 11,
                                          1, 0,  1, -1])
