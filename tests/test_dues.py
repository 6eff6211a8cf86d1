"""Each of the nine kinds of what's due: alone, at its edges, and together with others of one thing."""

import unittest

from tests.helper import (ADD, ALIVE, AURA, BEGIN, BEING, BUFF, COUNT, DROP, DRY, FIT, GEAR, GIVE, HURT, JOIN, KEEPS,
                          LASTING, LEND, LIFE, MARKS, MEND, MOST, PART, POST, RELIC, REST, ROUND, SHUNS, SIDES, STAND,
                          THINGS, UNIQUE, WARD, WHY, ask, being, due, last, plain, seen)

class DueCase(unittest.TestCase):
    def check(self, pairs, *calls):
        """These pairs are due on a field where the sides live."""
        self.assertEqual(due(ALIVE, *calls), pairs)
        told = last(ALIVE, *calls, (ROUND,))
        self.assertEqual(told, [0, len(pairs)] + [number for pair in pairs for number in pair])


class SideLoses(unittest.TestCase):
    def check(self, result, *calls):
        losing = [[], [(1, 0)], [(1, 1)], [(1, 0), (1, 1)]][result]
        self.assertEqual([pair for pair in due(*calls) if pair[0] == 1], losing)
        self.assertEqual(last(*calls, (ROUND,), (SIDES,))[-1], result)

    def test_by_its_life(self):
        for lives, result in (((1, 1), 0), ((0, 1), 1), ((1, 0), 2), ((0, 0), 3), ((MOST, 0), 2), ((0, MOST), 1)):
            self.check(result, (BEGIN, *lives))
        self.check(1, ALIVE, (LIFE, 0, -5))
        self.check(0, ALIVE, (LIFE, 0, -4))
        self.check(2, ALIVE, (LIFE, 1, -6))
        self.check(0, ALIVE, (LIFE, 1, -6), (LIFE, 1, 2))

    def test_by_its_marks(self):
        for marks, result in (((9, 9), 0), ((10, 9), 1), ((9, 10), 2), ((10, 10), 3), ((11, 0), 1), ((0, MOST), 2)):
            self.check(result, ALIVE, (MARKS, 0, marks[0]), (MARKS, 1, marks[1]))
        self.check(0, ALIVE, (MARKS, 0, 10), (MARKS, 0, -1))

    def test_by_being_dry(self):
        for dry, result in (((0, 0), 0), ((1, 0), 1), ((0, 1), 2), ((1, 1), 3)):
            self.check(result, ALIVE, (DRY, 0, dry[0]), (DRY, 1, dry[1]))
        self.check(0, ALIVE, (DRY, 0, 1), (DRY, 0, 0))

    def test_by_several_it_is_due_once(self):
        self.check(1, ALIVE, (LIFE, 0, -5), (MARKS, 0, 10), (DRY, 0, 1))
        self.check(3, ALIVE, (LIFE, 0, -5), (MARKS, 1, 10))
        self.check(3, ALIVE, (DRY, 0, 1), (LIFE, 1, -9))

    def test_not_while_a_thing_of_this_side_keeps(self):
        for lost in (((LIFE, 0, -5),), ((MARKS, 0, 10),), ((DRY, 0, 1),), ((LIFE, 0, -5), (MARKS, 0, 10), (DRY, 0, 1))):
            for kind in range(5):
                self.check(0, ALIVE, plain(kind, own=KEEPS), *lost)
                self.check(1, ALIVE, plain(kind, own=KEEPS, p=1), *lost)
                self.check(1, ALIVE, plain(kind, own=65535 - KEEPS - UNIQUE), *lost)
        self.check(2, plain(RELIC, own=KEEPS))
        self.check(1, plain(RELIC, own=KEEPS, p=1))
        self.check(0, plain(RELIC, own=KEEPS), plain(RELIC, own=KEEPS, p=1))

    def test_what_keeps_is_gone_or_given_away(self):
        keeper = (ALIVE, plain(RELIC, own=KEEPS), (DRY, 0, 1))
        self.check(0, *keeper)
        self.check(1, *keeper, (DROP, 1))
        self.check(1, *keeper, (GIVE, 1, 1))

    def test_keeping_by_a_buff_alone(self):
        for whose, p, result in ((0, 0, 0), (1, 0, 0), (2, 0, 1), (0, 1, 0), (1, 1, 1), (2, 1, 0)):
            # Thing 1 is of side 0, which is dry; thing 2, of side p, has the buff and doesn't reach itself.
            calls = (ALIVE, plain(RELIC), plain(RELIC, p=p), (BUFF, 2, whose, 0, 0, 1, 0, KEEPS), (DRY, 0, 1))
            self.check(result, *calls)

    def test_keeping_by_a_loan_alone(self):
        calls = (ALIVE, plain(RELIC), plain(GEAR, p=1), (LEND, 2, 0, KEEPS), (DRY, 0, 1))
        self.check(1, *calls)
        self.check(0, *calls, (JOIN, 2, 1))
        self.check(1, *calls, (JOIN, 2, 1), (GIVE, 1, 1))
        self.check(1, *calls, (JOIN, 2, 1), (DROP, 2))
        # A loan reaches the host also where the gear may not be: so the side is kept, this once.
        self.check(0, *calls, (FIT, 2, 0, 0, 0, 0), (JOIN, 2, 1))
        self.check(1, *calls, (FIT, 2, 0, 0, 0, 0), (JOIN, 2, 1), (ROUND,))

    def test_a_keeper_that_goes_in_the_same_round_still_keeps(self):
        calls = (ALIVE, being(0, own=KEEPS), (DRY, 0, 1))
        self.assertEqual(due(*calls), [(2, 1)])
        self.assertEqual(ask(*calls, (ROUND,), (SIDES,), (ROUND,), (SIDES,))[-4:],
                         [[0, 1, 2, 1], [0, 5, 5, 0, 0, 1, 0, 0], [0, 1, 1, 0], [0, 5, 5, 0, 0, 1, 0, 1]])

    def test_a_round_that_brings_a_result_does_the_rest_too(self):
        calls = (ALIVE, being(0), being(3, p=1), (HURT, 2, 3, 0), (COUNT, 2, 1, 0), plain(RELIC), (COUNT, 3, 4, 1),
                 (DRY, 1, 1))
        self.assertEqual(ask(*calls, (ROUND,), (THINGS,), (SIDES,))[-3:],
                         [[0, 3, 1, 1, 2, 1, 9, 3], [0, 2, 3], [0, 5, 5, 0, 0, 0, 1, 2]])
        self.assertEqual(seen(3, *calls, (ROUND,))["plus"], 3)

    def test_being_dry_stays(self):
        self.assertEqual(last(ALIVE, (DRY, 1, 1), (ROUND,), (SIDES,)), [0, 5, 5, 0, 0, 0, 1, 2])


class TooWeak(DueCase):
    def test_own_toughness(self):
        for toughness, pairs in ((1, []), (0, [(2, 1)]), (-1, [(2, 1)]), (-MOST, [(2, 1)]), (MOST, [])):
            self.check(pairs, being(toughness))

    def test_counters(self):
        self.check([], being(2), (COUNT, 1, 0, 1))
        self.check([(2, 1)], being(2), (COUNT, 1, 0, 2))
        self.check([], being(0), (COUNT, 1, 1, 0))
        self.check([(2, 1)], being(-3), (COUNT, 1, 3, 0))

    def test_buffs_and_loans(self):
        relic = plain(RELIC)
        self.check([], being(0), relic, (BUFF, 2, 0, 0, 0, 0, 1, 0))
        self.check([(2, 1)], being(1), relic, (BUFF, 2, 0, 0, 0, 0, -1, 0))
        self.check([(2, 1)], being(1), relic, (BUFF, 1, 0, 0, 0, 0, -1, 0))
        self.check([], being(1), relic, (BUFF, 1, 0, 0, 0, 1, -1, 0))
        gear = plain(GEAR)
        self.check([], being(0), gear, (LEND, 2, 1, 0), (JOIN, 2, 1))
        self.check([(2, 1)], being(0), gear, (LEND, 2, 1, 0))
        self.check([(2, 1)], being(1), gear, (LEND, 2, -1, 0), (JOIN, 2, 1))

    def test_wards_damage_poison_and_lasting_make_no_difference(self):
        for own in (0, LASTING, 65535 - UNIQUE):
            for wards in (0, 1, MOST):
                for hurt in ((), ((HURT, 1, 1, 0),), ((HURT, 1, 1, 1),)):
                    self.check([(2, 1)], being(0, wards, own), *hurt)

    def test_only_beings(self):
        for kind in (RELIC, GEAR, POST):
            self.check([], plain(kind))
            self.check([], plain(kind), (COUNT, 1, 0, 5))


class Wrecked(DueCase):
    def test_damage_of_at_least_its_toughness_now(self):
        for toughness, damage, wrecked in ((2, 1, False), (2, 2, True), (2, 3, True), (1, 0, False), (MOST, MOST, True),
                                           (MOST, MOST - 1, False), (1, MOST, True)):
            self.check([(3, 1)] if wrecked else [], being(toughness), (HURT, 1, damage, 0))
            self.check([(4, 1)] if wrecked else [], being(toughness, 1), (HURT, 1, damage, 0))

    def test_poison(self):
        self.check([(3, 1)], being(9), (HURT, 1, 1, 1))
        self.check([(3, 1)], being(9), (HURT, 1, 1, 1), (HURT, 1, 1, 0))
        self.check([], being(9), (HURT, 1, 0, 1))
        self.check([], being(9), (HURT, 1, 1, 0))
        self.check([(4, 1)], being(9, 2), (HURT, 1, 1, 1))
        self.check([], being(9), (HURT, 1, 1, 1), (MEND,))

    def test_toughness_now_counts(self):
        hurt = (HURT, 1, 2, 0)
        self.check([], being(2), hurt, (COUNT, 1, 1, 0))
        self.check([(3, 1)], being(3), hurt, (COUNT, 1, 0, 1))
        self.check([], being(2), hurt, plain(RELIC), (BUFF, 2, 0, 0, 0, 0, 1, 0))
        self.check([(3, 1)], being(3), hurt, plain(RELIC), (BUFF, 2, 0, 0, 0, 0, -1, 0))
        self.check([], being(2), hurt, plain(GEAR), (LEND, 2, 1, 0), (JOIN, 2, 1))
        self.check([(3, 1)], being(3), hurt, plain(GEAR), (LEND, 2, -1, 0), (JOIN, 2, 1))
        self.check([(3, 1)], being(2), hurt, plain(GEAR), (LEND, 2, 1, 0))

    def test_lasting(self):
        for hurt in ((HURT, 1, 2, 0), (HURT, 1, 1, 1), (HURT, 1, MOST, 1)):
            for wards in (0, 1):
                self.check([], being(2, wards, LASTING), hurt)
            self.check([(3, 1)], being(2, 0, 65535 - LASTING), hurt)

    def test_lasting_by_a_buff_or_a_loan_alone(self):
        hurt = (HURT, 1, 2, 1)
        self.check([], being(2), hurt, plain(RELIC), (BUFF, 2, 0, 0, 0, 0, 0, LASTING))
        self.check([(3, 1)], being(2), hurt, plain(RELIC), (BUFF, 2, 2, 0, 0, 0, 0, LASTING))
        self.check([], being(2), hurt, (BUFF, 1, 0, 0, 0, 0, 0, LASTING))
        self.check([(3, 1)], being(2), hurt, (BUFF, 1, 0, 0, 0, 1, 0, LASTING))
        self.check([], being(2), hurt, plain(GEAR), (LEND, 2, 0, LASTING), (JOIN, 2, 1))
        self.check([(3, 1)], being(2), hurt, plain(GEAR), (LEND, 2, 0, LASTING))
        self.check([(8, 2)], being(2), hurt, plain(GEAR), (LEND, 2, 0, LASTING), (FIT, 2, 0, 0, 0, 0), (JOIN, 2, 1))

    def test_it_goes_without_wards(self):
        calls = (ALIVE, being(2), (HURT, 1, 2, 0), (ROUND,))
        self.assertEqual(ask(*calls, (WHY, 1), (THINGS,))[-2:], [[0, 0, 3], [0]])


class UsesWard(DueCase):
    def test_one_ward_less_no_damage_and_not_poisoned(self):
        for wards in (1, 2, MOST):
            for hurt in ((HURT, 1, 2, 0), (HURT, 1, 1, 1), (HURT, 1, 7, 1)):
                calls = (ALIVE, being(2, wards), hurt)
                self.assertEqual(due(*calls), [(4, 1)])
                before, after = seen(1, *calls), seen(1, *calls, (ROUND,))
                self.assertEqual(after, {**before, "wards": wards - 1, "damage": 0, "poisoned": 0})
                self.assertEqual(due(*calls, (ROUND,)), [])

    def test_wards_given_or_taken_by_a_call(self):
        self.check([(4, 1)], being(2), (WARD, 1, 1), (HURT, 1, 2, 0))
        self.check([(3, 1)], being(2, 1), (WARD, 1, -1), (HURT, 1, 2, 0))

    def test_no_ward_is_used_where_nothing_is_wrecked(self):
        for call in ((HURT, 1, 1, 0), (HURT, 1, 0, 1)):
            calls = (ALIVE, being(2, 3), call)
            self.assertEqual(seen(1, *calls, (ROUND,)), seen(1, *calls))


class PostFallen(DueCase):
    def test_standing(self):
        for standing, pairs in ((0, [(5, 1)]), (1, []), (MOST, [])):
            self.check(pairs, plain(POST, standing=standing))
        self.check([(5, 1)], plain(POST, standing=3), (HURT, 1, 3, 0))
        self.check([], plain(POST, standing=3), (HURT, 1, 2, 0))
        self.check([(5, 1)], plain(POST, standing=3), (STAND, 1, -4))
        self.check([], plain(POST, standing=0), (STAND, 1, 1))

    def test_wards_and_lasting_make_no_difference(self):
        self.check([(5, 1)], plain(POST, own=LASTING + KEEPS + SHUNS, standing=0), (WARD, 1, 5))

    def test_only_posts(self):
        for kind in (BEING, RELIC, GEAR):
            self.check([], (ADD, 0, kind, 0, 0, 1, 0, 0))

    def test_it_goes(self):
        self.assertEqual(ask(ALIVE, plain(POST, standing=0), (ROUND,), (WHY, 1), (THINGS,))[-2:], [[0, 0, 5], [0]])


class Unique(DueCase):
    def test_the_one_with_the_least_number_stays(self):
        relic = plain(RELIC, UNIQUE, name=7)
        self.check([], relic)
        self.check([(6, 2)], relic, relic)
        self.check([(6, 2), (6, 3)], relic, relic, relic)
        self.assertEqual(last(ALIVE, relic, relic, relic, (ROUND,), (THINGS,)), [0, 1])

    def test_of_any_kind_and_of_two_kinds(self):
        for kind in (BEING, RELIC, GEAR, POST):
            for other in (BEING, RELIC, GEAR, POST):
                things = [(ADD, 1, each, MOST, UNIQUE, 1, 0, 1) for each in (kind, other)]
                self.check([(6, 2)], *things)

    def test_side_and_name_must_be_the_same(self):
        relic = plain(RELIC, UNIQUE, name=7)
        self.check([], relic, plain(RELIC, UNIQUE, name=8))
        self.check([], relic, plain(RELIC, UNIQUE, name=7, p=1))
        self.check([], plain(RELIC, UNIQUE), plain(RELIC, UNIQUE))
        self.check([(6, 2)], relic, plain(RELIC, UNIQUE, name=7, p=1), (GIVE, 2, 0))
        self.check([], relic, relic, (GIVE, 2, 1))
        self.check([], relic, relic, (DROP, 1))

    def test_both_must_be_unique(self):
        unique, common = plain(RELIC, UNIQUE, name=7), plain(RELIC, 65535 - UNIQUE - SHUNS, name=7)
        self.check([], unique, common)
        self.check([], common, unique)
        self.check([], common, common)
        self.check([(6, 3)], unique, common, unique)
        self.check([(6, 3)], common, unique, unique)

    def test_by_a_buff_alone(self):
        common = plain(RELIC, name=7)
        self.check([(6, 2)], common, common, (BUFF, 1, 0, 0, 0, 0, 0, UNIQUE))
        self.check([], common, common, (BUFF, 1, 0, 0, 0, 1, 0, UNIQUE))
        self.check([(6, 2)], plain(RELIC, UNIQUE, name=7), common, (BUFF, 1, 0, 0, 0, 1, 0, UNIQUE))
        self.check([(6, 2), (6, 3)], common, common, common, plain(RELIC, p=1), (BUFF, 4, 2, 0, 0, 0, 0, UNIQUE))

    def test_by_a_loan_alone(self):
        things = (plain(RELIC, UNIQUE, name=7), plain(RELIC, name=7), plain(GEAR, p=1), (LEND, 3, 0, UNIQUE))
        self.check([], *things)
        self.check([(6, 2)], *things, (JOIN, 3, 2))
        self.check([], *things, (JOIN, 3, 1))

    def test_one_that_goes_with_it_counts_still(self):
        # Thing 1 falls in the round in which thing 2 goes because of it; both were there at its beginning.
        things = (being(0, own=UNIQUE, name=7), plain(RELIC, UNIQUE, name=7))
        self.check([(2, 1), (6, 2)], *things)
        self.assertEqual(last(ALIVE, *things, (ROUND,), (THINGS,)), [0])

    def test_another_name_between_them(self):
        relic = plain(RELIC, UNIQUE, name=7)
        self.check([(6, 2), (6, 4)], relic, relic, plain(RELIC, UNIQUE, name=9), relic)


class AuraLoose(DueCase):
    def test_attached_to_nothing(self):
        self.check([(7, 1)], plain(AURA))
        self.check([(7, 2)], being(), plain(AURA), (JOIN, 2, 1), (PART, 2))

    def test_attached_where_it_may_be(self):
        for kind in (BEING, RELIC, GEAR, POST):
            self.check([], (ADD, 1, kind, 0, 0, 1, 0, 1), plain(AURA), (JOIN, 2, 1))

    def test_its_host_is_gone(self):
        self.check([(7, 2)], being(), plain(AURA), (JOIN, 2, 1), (DROP, 1))

    def test_where_its_fit_does_not_let_it(self):
        host = being(own=16)
        for fit, pairs in (((0, 0, 0, 1), []), ((0, 0, 0, 30), [(7, 2)]), ((0, 0, 0, 0), [(7, 2)]), ((1, 0, 0, 31), []),
                           ((2, 0, 0, 31), [(7, 2)]), ((0, 16, 0, 31), []), ((0, 32, 0, 31), [(7, 2)]),
                           ((0, 48, 0, 31), [(7, 2)]), ((0, 0, 32, 31), []), ((0, 0, 16, 31), [(7, 2)]),
                           ((1, 16, 32, 1), []), ((2, 16, 32, 1), [(7, 2)])):
            self.check(pairs, host, plain(AURA), (FIT, 2, *fit), (JOIN, 2, 1))

    def test_whose_is_told_from_the_auras_side(self):
        things = (being(), plain(AURA), (FIT, 2, 1, 0, 0, 31), (JOIN, 2, 1))
        self.check([], *things)
        self.check([(7, 2)], *things, (GIVE, 1, 1))
        self.check([(7, 2)], *things, (GIVE, 2, 1))
        self.check([], *things, (GIVE, 1, 1), (GIVE, 2, 1))

    def test_its_host_shuns(self):
        self.check([(7, 2)], being(own=SHUNS), plain(AURA), (JOIN, 2, 1))
        self.check([], being(own=65535 - SHUNS - UNIQUE), plain(AURA), (JOIN, 2, 1))
        self.check([(7, 2)], being(), plain(AURA), (JOIN, 2, 1), (BUFF, 1, 0, 0, 0, 0, 0, SHUNS))
        self.check([(7, 2)], being(), plain(AURA), (JOIN, 2, 1), plain(RELIC), (BUFF, 3, 0, 0, 0, 0, 0, SHUNS))
        self.check([(7, 2)], being(), plain(AURA), (JOIN, 2, 1), (LEND, 2, 0, SHUNS))
        self.check([(7, 2), (8, 3)], being(), plain(AURA), plain(GEAR), (LEND, 3, 0, SHUNS), (JOIN, 2, 1), (JOIN, 3, 1))
        # Where the aura itself shuns, that's nothing to its host.
        self.check([], being(), plain(AURA, own=SHUNS), (JOIN, 2, 1))

    def test_it_goes(self):
        self.assertEqual(ask(ALIVE, plain(AURA), (ROUND,), (WHY, 1), (THINGS,))[-2:], [[0, 0, 7], [0]])

    def test_two_attached_to_one_another_hold_one_another_up(self):
        auras = (plain(AURA), plain(AURA), (JOIN, 1, 2), (JOIN, 2, 1))
        self.check([], *auras)
        self.check([(7, 2)], *auras, (FIT, 2, 0, 0, 0, 27))
        self.assertEqual(last(ALIVE, *auras, (FIT, 2, 0, 0, 0, 27), (REST,)), [0, 0, 2, 1, 7, 2, 1, 7, 1])


class GearComesOff(DueCase):
    def test_attached_to_nothing(self):
        self.check([], plain(GEAR))

    def test_attached_where_it_may_be(self):
        for kind in (BEING, RELIC, GEAR, POST):
            calls = ((ADD, 1, kind, 0, 0, 1, 0, 1), plain(GEAR), (JOIN, 2, 1))
            self.check([], *calls)
            self.assertEqual(seen(2, ALIVE, *calls, (ROUND,))["host"], 1)

    def test_where_its_fit_does_not_let_it(self):
        host = being(own=16)
        for fit, pairs in (((0, 0, 0, 1), []), ((0, 0, 0, 30), [(8, 2)]), ((1, 0, 0, 31), []),
                           ((2, 0, 0, 31), [(8, 2)]), ((0, 16, 0, 31), []), ((0, 48, 0, 31), [(8, 2)]),
                           ((0, 0, 32, 31), []), ((0, 0, 16, 31), [(8, 2)])):
            self.check(pairs, host, plain(GEAR), (FIT, 2, *fit), (JOIN, 2, 1))

    def test_its_host_is_gone_or_shuns(self):
        self.check([(8, 2)], being(), plain(GEAR), (JOIN, 2, 1), (DROP, 1))
        self.check([(8, 2)], being(own=SHUNS), plain(GEAR), (JOIN, 2, 1))
        self.check([(8, 2)], being(), plain(GEAR), (JOIN, 2, 1), (LEND, 2, 0, SHUNS))

    def test_it_stays_there_and_only_its_host_changes(self):
        calls = (ALIVE, being(own=SHUNS), plain(GEAR), (JOIN, 2, 1), (COUNT, 2, 3, 0))
        self.assertEqual(seen(2, *calls, (ROUND,)), {**seen(2, *calls), "host": 0})
        self.assertEqual(due(*calls, (ROUND,)), [])
        self.assertEqual(last(*calls, (ROUND,), (WHY, 2)), [-2])


class CountersMeet(DueCase):
    def test_as_many_of_each_as_of_the_fewer(self):
        for plus, minus, left in ((1, 1, (0, 0)), (3, 1, (2, 0)), (1, 3, (0, 2)), (MOST, MOST, (0, 0)),
                                  (MOST, 1, (MOST - 1, 0)), (1, MOST, (0, MOST - 1))):
            calls = (ALIVE, plain(RELIC), (COUNT, 1, plus, minus))
            self.assertEqual(due(*calls), [(9, 1)])
            before, after = seen(1, *calls), seen(1, *calls, (ROUND,))
            self.assertEqual(after, {**before, "plus": left[0], "minus": left[1]})
            self.assertEqual(due(*calls, (ROUND,)), [])

    def test_not_with_one_sort_alone(self):
        for counters in ((0, 0), (5, 0), (0, 5)):
            self.check([], plain(RELIC), (COUNT, 1, *counters))

    def test_of_every_kind(self):
        for kind in (BEING, RELIC, GEAR, POST):
            self.check([(9, 1)], (ADD, 0, kind, 0, 0, 1, 0, 1), (COUNT, 1, 2, 2))
        self.check([(9, 2)], being(), plain(AURA), (JOIN, 2, 1), (COUNT, 2, 1, 2))


class SeveralOfOneThing(DueCase):
    def check_reason(self, kinds, n, *calls):
        """These kinds are due of n and of nothing else; a round takes n away for the least that lets it go, if any."""
        self.check([(kind, n) for kind in kinds], *calls)
        going = [kind for kind in kinds if kind in (2, 3, 5, 6, 7)]
        told = last(ALIVE, *calls, (ROUND,), (WHY, n))
        self.assertEqual(told, [0, 0, min(going)] if going else [-2])

    def test_a_being(self):
        first = plain(RELIC, UNIQUE, name=7)
        for toughness, wards, hurt, kind in ((0, 0, 0, 2), (0, 3, 2, 2), (2, 0, 2, 3), (2, 1, 2, 4)):
            for named in (0, 1):
                for counters in (0, 2):
                    if not named and not counters:
                        continue
                    kinds = [kind] + [6] * named + [9] * (counters > 0)
                    self.check_reason(kinds, 2, first, being(toughness, wards, UNIQUE, name=7 * named),
                                      (HURT, 2, hurt, 0), (COUNT, 2, counters, counters))

    def test_a_post(self):
        first = plain(RELIC, UNIQUE, name=7)
        self.check_reason([5, 6], 2, first, plain(POST, UNIQUE, name=7, standing=0))
        self.check_reason([5, 9], 1, plain(POST, standing=0), (COUNT, 1, 1, 1))
        self.check_reason([5, 6, 9], 2, first, plain(POST, UNIQUE, name=7, standing=0), (COUNT, 2, 1, 1))
        self.check_reason([6, 9], 2, first, plain(POST, UNIQUE, name=7), (COUNT, 2, 1, 1))

    def test_an_aura(self):
        first = plain(RELIC, UNIQUE, name=7)
        self.check_reason([6, 7], 2, first, plain(AURA, UNIQUE, name=7))
        self.check_reason([7, 9], 1, plain(AURA), (COUNT, 1, 1, 1))
        self.check_reason([6, 7, 9], 2, first, plain(AURA, UNIQUE, name=7), (COUNT, 2, 1, 1))
        self.check_reason([6, 9], 2, first, plain(AURA, UNIQUE, name=7), (JOIN, 2, 1), (COUNT, 2, 1, 1))

    def test_a_gear(self):
        first = plain(RELIC, UNIQUE + SHUNS, name=7)
        self.check_reason([6, 8], 2, first, plain(GEAR, UNIQUE, name=7), (JOIN, 2, 1))
        self.check_reason([8, 9], 2, first, plain(GEAR), (JOIN, 2, 1), (COUNT, 2, 1, 1))
        self.check_reason([6, 8, 9], 2, first, plain(GEAR, UNIQUE, name=7), (JOIN, 2, 1), (COUNT, 2, 1, 1))

    def test_all_that_stays_is_done_at_once(self):
        calls = (ALIVE, being(2, 1), (HURT, 1, 2, 1), (COUNT, 1, 3, 3), plain(RELIC, SHUNS), plain(GEAR), (JOIN, 3, 2),
                 (COUNT, 3, 1, 4))
        self.assertEqual(due(*calls), [(4, 1), (9, 1), (8, 3), (9, 3)])
        was = [seen(n, *calls) for n in (1, 2, 3)]
        now = [seen(n, *calls, (ROUND,)) for n in (1, 2, 3)]
        self.assertEqual(now[0], {**was[0], "wards": 0, "damage": 0, "poisoned": 0, "plus": 0, "minus": 0})
        self.assertEqual(now[1], was[1])
        self.assertEqual(now[2], {**was[2], "host": 0, "plus": 0, "minus": 3})


class TheOrderOfThePairs(DueCase):
    def test_sides_then_things_by_their_numbers_then_kinds(self):
        calls = (plain(AURA), (COUNT, 1, 1, 1), plain(RELIC, UNIQUE, name=7),
                 plain(POST, UNIQUE, name=7, standing=0), (COUNT, 3, 1, 1), being(0), being(1, 1),
                 (HURT, 5, 1, 0), (COUNT, 4, 1, 1))
        self.assertEqual(due(*calls), [(1, 0), (1, 1), (7, 1), (9, 1), (5, 3), (6, 3), (9, 3), (2, 4), (9, 4), (4, 5)])
        self.assertEqual(last(*calls, (ROUND,)),
                         [0, 10, 1, 0, 1, 1, 7, 1, 9, 1, 5, 3, 6, 3, 9, 3, 2, 4, 9, 4, 4, 5])

    def test_also_when_some_are_gone(self):
        weak = being(0)
        self.check([(2, 2), (2, 4), (2, 5)], weak, weak, weak, weak, (DROP, 1), (DROP, 3), weak)
