"""Each call with ordinary numbers, and its whole answer."""

import unittest

from restfield.field import answers
from tests.helper import (ADD, AURA, BEGIN, BEING, BUFF, COUNT, DRY, FIT, GEAR, HURT, JOIN, LEND, LIFE, MARKS, PART,
                          POST, RELIC, SIX_THINGS, STAND, WARD, ask, field_after, last, picture, tell)


class Begin(unittest.TestCase):
    def test_answers_0_and_sets_the_lives(self):
        told = ask((BEGIN, 20, 30), (LIFE, 0, 0), (LIFE, 1, 0))
        self.assertEqual(told, [[0], [0, 20], [0, 30]])

    def test_a_line_begins_as_after_begin_0_0(self):
        told = ask((LIFE, 0, 0), (LIFE, 1, 0), (MARKS, 0, 0), (MARKS, 1, 0), (ADD, 0, BEING, 0, 0, 1, 0, 0))
        self.assertEqual(told, [[0, 0], [0, 0], [0, 0], [0, 0], [0, 1]])
        self.assertEqual(picture(field_after()), picture(field_after((BEGIN, 0, 0))))

    def test_makes_everything_new(self):
        told = ask(*SIX_THINGS, (MARKS, 0, 4), (MARKS, 1, 5), (LIFE, 1, 6), (BEGIN, 1, 2), (PART, 1), (LIFE, 0, 0),
                   (LIFE, 1, 0), (MARKS, 0, 0), (MARKS, 1, 0), (ADD, 1, POST, 0, 0, 0, 0, 7), (PART, 2))
        self.assertEqual(told[9:], [[0], [-2], [0, 1], [0, 2], [0, 0], [0, 0], [0, 1], [-2]])

    def test_leaves_nothing_of_what_was(self):
        used = field_after(*SIX_THINGS, (DRY, 0, 1), (DRY, 1, 1), (MARKS, 0, 3), (LIFE, 0, -9), (BEGIN, 5, 6))
        self.assertEqual(picture(used), picture(field_after((BEGIN, 5, 6))))

    def test_is_taken_and_ends_the_result_when_there_is_one(self):
        for result in (1, 2, 3):
            field = field_after(*SIX_THINGS)
            field.result = result
            self.assertEqual(tell(field, (BEGIN, 5, 6)), [0])
            self.assertEqual(picture(field), picture(field_after((BEGIN, 5, 6))))


class Add(unittest.TestCase):
    def test_numbers_run_from_1_for_both_sides_and_every_kind(self):
        self.assertEqual(ask(*SIX_THINGS), [[0, 1], [0, 2], [0, 3], [0, 4], [0, 5], [0, 6]])

    def test_wards_and_standing_are_as_added(self):
        told = ask((ADD, 1, RELIC, 0, 0, 0, 8, 9), (WARD, 1, 0), (STAND, 1, 0))
        self.assertEqual(told, [[0, 1], [0, 8], [0, 9]])

    def test_all_that_a_new_thing_has(self):
        self.assertEqual(picture(field_after((ADD, 1, GEAR, 5, 6, -7, 8, 9)).things[1]), {
            "side": 1, "kind": GEAR, "name": 5, "qualities": 6, "toughness": -7, "wards": 8, "standing": 9,
            "damage": 0, "poisoned": 0, "plus": 0, "minus": 0, "host": 0,
            "buff": {"whose": 0, "need": 0, "ban": 0, "others": 0, "toughness": 0, "qualities": 0},
            "loan": {"toughness": 0, "qualities": 0},
            "fit": {"whose": 0, "need": 0, "ban": 0, "kinds": 31},
        })

    def test_64_things_may_be_there(self):
        told = ask(*[(ADD, k % 2, k % 5, 0, 0, 1, 0, 0) for k in range(64)])
        self.assertEqual(told, [[0, k + 1] for k in range(64)])


class BuffLendFit(unittest.TestCase):
    """What these three set is told by no call among the first fourteen, so the field is looked at."""

    def test_buff(self):
        self.assertEqual(last(*SIX_THINGS, (BUFF, 2, 1, 2, 3, 1, -4, 5)), [0])
        field = field_after(*SIX_THINGS, (BUFF, 2, 2, 9, 9, 0, 9, 9), (BUFF, 2, 1, 2, 3, 1, -4, 5))
        expected = {"whose": 1, "need": 2, "ban": 3, "others": 1, "toughness": -4, "qualities": 5}
        self.assertEqual(picture(field.things[2].buff), expected)
        self.check_only_that_differs(field, 2, "buff")

    def test_lend(self):
        self.assertEqual(last(*SIX_THINGS, (LEND, 4, -2, 3)), [0])
        field = field_after(*SIX_THINGS, (LEND, 4, 9, 9), (LEND, 4, -2, 3))
        self.assertEqual(picture(field.things[4].loan), {"toughness": -2, "qualities": 3})
        self.check_only_that_differs(field, 4, "loan")

    def test_fit(self):
        self.assertEqual(last(*SIX_THINGS, (FIT, 5, 2, 3, 4, 17)), [0])
        field = field_after(*SIX_THINGS, (FIT, 5, 1, 9, 9, 9), (FIT, 5, 2, 3, 4, 17))
        self.assertEqual(picture(field.things[5].fit), {"whose": 2, "need": 3, "ban": 4, "kinds": 17})
        self.check_only_that_differs(field, 5, "fit")

    def test_each_kind_takes_them(self):
        for n in range(1, 7):
            told = ask(*SIX_THINGS, (BUFF, n, 0, 0, 0, 0, 0, 0), (LEND, n, 0, 0), (FIT, n, 0, 0, 0, 0))
            self.assertEqual(told[6:], [[0], [0], [0]])

    def check_only_that_differs(self, field, n, part):
        setattr(field.things[n], part, None)
        plain = field_after(*SIX_THINGS)
        setattr(plain.things[n], part, None)
        self.assertEqual(picture(field), picture(plain))


class JoinPart(unittest.TestCase):
    def test_aura_and_gear_join_and_part(self):
        told = ask(*SIX_THINGS, (JOIN, 4, 2), (JOIN, 5, 6), (PART, 4), (PART, 4), (PART, 5), (PART, 5))
        self.assertEqual(told[6:], [[0], [0], [0, 2], [0, 0], [0, 6], [0, 0]])

    def test_a_second_join_takes_the_place_of_the_first(self):
        self.assertEqual(last(*SIX_THINGS, (JOIN, 4, 1), (JOIN, 4, 3), (PART, 4)), [0, 3])

    def test_two_may_be_attached_to_one_another(self):
        told = ask(*SIX_THINGS, (JOIN, 4, 5), (JOIN, 5, 4), (PART, 4), (PART, 5))
        self.assertEqual(told[6:], [[0], [0], [0, 5], [0, 4]])

    def test_join_asks_neither_the_fit_nor_whether_the_host_shuns(self):
        shunning = (ADD, 1, BEING, 0, 4, 1, 0, 0)
        told = ask(*SIX_THINGS, shunning, (FIT, 4, 1, 65535, 65535, 0), (JOIN, 4, 7), (PART, 4))
        self.assertEqual(told[7:], [[0], [0], [0, 7]])

    def test_part_takes_a_thing_of_any_kind(self):
        for n in (1, 2, 3, 6):
            self.assertEqual(last(*SIX_THINGS, (PART, n)), [0, 0])

    def test_host_is_changed_and_nothing_else(self):
        joined = field_after(*SIX_THINGS, (JOIN, 4, 2))
        self.assertEqual(joined.things[4].host, 2)
        joined.things[4].host = 0
        self.assertEqual(picture(joined), picture(field_after(*SIX_THINGS)))
        parted = field_after(*SIX_THINGS, (JOIN, 4, 2), (PART, 4))
        self.assertEqual(picture(parted), picture(field_after(*SIX_THINGS)))


class Hurt(unittest.TestCase):
    def test_a_beings_damage_grows(self):
        told = ask(*SIX_THINGS, (HURT, 1, 3, 0), (HURT, 1, 4, 1), (HURT, 2, 1, 0), (HURT, 1, 0, 0))
        self.assertEqual(told[6:], [[0, 3], [0, 7], [0, 1], [0, 7]])

    def test_a_beings_standing_and_wards_stay(self):
        being = (ADD, 0, BEING, 0, 0, 2, 6, 9)
        self.assertEqual(ask(being, (HURT, 1, 3, 1), (STAND, 1, 0), (WARD, 1, 0)), [[0, 1], [0, 3], [0, 9], [0, 6]])

    def test_a_posts_standing_falls(self):
        told = ask(*SIX_THINGS, (HURT, 6, 2, 0), (HURT, 6, 0, 1), (HURT, 6, 1, 1), (STAND, 6, 0))
        self.assertEqual(told[6:], [[0, 3], [0, 3], [0, 2], [0, 2]])

    def test_a_post_has_no_damage_and_is_not_poisoned(self):
        post = field_after(*SIX_THINGS, (HURT, 6, 2, 1)).things[6]
        self.assertEqual((post.damage, post.poisoned), (0, 0))

    def test_poison(self):
        for hurts, poisoned in ((((1, 0),), 0), (((0, 1),), 0), (((1, 1),), 1), (((1, 1), (1, 0)), 1),
                                (((1, 1), (0, 0)), 1), (((1, 0), (2, 1)), 1), (((1, 0), (0, 1)), 0)):
            with self.subTest(hurts=hurts):
                field = field_after(*SIX_THINGS, *[(HURT, 1, k, poison) for k, poison in hurts])
                self.assertEqual(field.things[1].poisoned, poisoned)
                self.assertEqual(field.things[2].poisoned, 0)


class Amounts(unittest.TestCase):
    def test_count(self):
        told = ask(*SIX_THINGS, (COUNT, 3, 5, 2), (COUNT, 3, -1, 4), (COUNT, 3, 0, 0), (COUNT, 1, 0, 7))
        self.assertEqual(told[6:], [[0, 5, 2], [0, 4, 6], [0, 4, 6], [0, 0, 7]])

    def test_stand(self):
        told = ask(*SIX_THINGS, (STAND, 6, 4), (STAND, 6, -2), (STAND, 6, 0), (STAND, 1, 3))
        self.assertEqual(told[6:], [[0, 9], [0, 7], [0, 7], [0, 3]])

    def test_ward(self):
        told = ask(*SIX_THINGS, (WARD, 2, 4), (WARD, 2, -2), (WARD, 2, 0), (WARD, 1, 3))
        self.assertEqual(told[6:], [[0, 5], [0, 3], [0, 3], [0, 3]])

    def test_each_kind_takes_them(self):
        for kind in (BEING, RELIC, AURA, GEAR, POST):
            told = ask((ADD, 0, kind, 0, 0, 0, 0, 0), (COUNT, 1, 1, 2), (STAND, 1, 3), (WARD, 1, 4))
            self.assertEqual(told, [[0, 1], [0, 1, 2], [0, 3], [0, 4]])

    def test_they_are_kept_apart(self):
        told = ask((ADD, 0, BEING, 0, 0, 0, 0, 0), (COUNT, 1, 1, 2), (STAND, 1, 3), (WARD, 1, 4), (HURT, 1, 5, 0),
                   (COUNT, 1, 0, 0), (STAND, 1, 0), (WARD, 1, 0), (HURT, 1, 0, 0))
        self.assertEqual(told[5:], [[0, 1, 2], [0, 3], [0, 4], [0, 5]])


class LifeMarksDry(unittest.TestCase):
    def test_life(self):
        told = ask((BEGIN, 20, 30), (LIFE, 0, -5), (LIFE, 1, 5), (LIFE, 0, 1), (LIFE, 1, 0))
        self.assertEqual(told, [[0], [0, 15], [0, 35], [0, 16], [0, 35]])

    def test_marks(self):
        told = ask((MARKS, 0, 3), (MARKS, 1, 10), (MARKS, 0, -1), (MARKS, 1, 0))
        self.assertEqual(told, [[0, 3], [0, 10], [0, 2], [0, 10]])

    def test_life_and_marks_are_kept_apart(self):
        self.assertEqual(ask((LIFE, 0, 3), (MARKS, 0, 4), (LIFE, 0, 0)), [[0, 3], [0, 4], [0, 3]])

    def test_dry(self):
        self.assertEqual(ask((DRY, 0, 1), (DRY, 1, 0), (DRY, 0, 0)), [[0], [0], [0]])
        for turns, expected in (((), [0, 0]), (((0, 1),), [1, 0]), (((1, 1),), [0, 1]), (((0, 1), (0, 0)), [0, 0]),
                                (((0, 1), (1, 1), (1, 1)), [1, 1])):
            field = field_after(*[(DRY, p, v) for p, v in turns])
            self.assertEqual([side.dry for side in field.sides], expected)

    def test_a_life_of_0_marks_and_being_dry_bring_no_result_by_themselves(self):
        told = ask((BEGIN, 0, 0), (LIFE, 0, -1), (MARKS, 1, 10), (DRY, 0, 1), (DRY, 1, 1), (LIFE, 1, 0))
        self.assertEqual(told, [[0], [0, -1], [0, 10], [0], [0], [0, 0]])


class OneList(unittest.TestCase):
    def test_every_call_in_one_list_with_the_counts_as_they_stand(self):
        calls = [0, 20, 30,  1, 0, 0, 0, 0, 2, 1, 0,  1, 1, 2, 9, 8, 0, 0, 0,  2, 1, 1, 0, 0, 1, 1, 0,  3, 2, 1, 1,
                 4, 2, 2, 0, 0, 1,  5, 2, 1,  5, 1, 2,  6, 2,  7, 1, 3, 1,  7, 2, 3, 1,  8, 1, 2, -1,  9, 1, 4,
                 10, 1, -5,  11, 1, -40,  12, 0, 11,  13, 1, 1,  13, 2, 1]
        self.assertEqual(answers(calls), [1, 0,  2, 0, 1,  2, 0, 2,  1, 0,  1, 0,  1, 0,  1, 0,  1, -4,  2, 0, 1,
                                          2, 0, 3,  1, -4,  3, 0, 2, 0,  2, 0, 4,  2, 0, 0,  2, 0, -10,  2, 0, 11,
                                          1, 0,  1, -1])
