"""Rounds and resting: all at once as judged at the beginning, and what went may have held up something else."""

import unittest

from tests.helper import (ALIVE, AURA, BUFF, COUNT, DROP, DRY, FIT, GEAR, HURT, JOIN, KEEPS, LASTING, LEND, LIFE, MARKS,
                          POST, RELIC, REST, ROUND, SHUNS, SIDES, THINGS, UNIQUE, VOID, WHY, ask, being, due, last,
                          plain, rest, seen)

class AtOnce(unittest.TestCase):
    def test_two_that_weaken_one_another_both_go(self):
        calls = (ALIVE, being(1), being(1, p=1), (BUFF, 1, 2, 0, 0, 0, -1, 0), (BUFF, 2, 2, 0, 0, 0, -1, 0))
        self.assertEqual(rest(*calls), (0, [[(2, 1), (2, 2)]]))

    def test_two_that_hold_one_another_up_both_stay(self):
        calls = (ALIVE, being(0), being(0), (BUFF, 1, 0, 0, 0, 1, 1, 0), (BUFF, 2, 0, 0, 0, 1, 1, 0))
        self.assertEqual(rest(*calls), (0, []))
        self.assertEqual(rest(*calls, (HURT, 2, 1, 0)), (0, [[(3, 2)], [(2, 1)]]))
        self.assertEqual(rest(*calls, (DROP, 1)), (0, [[(2, 2)]]))

    def test_three_that_hold_one_another_up_in_a_ring(self):
        ring = (ALIVE, being(0, own=16), being(0, own=32), being(0, own=64), (BUFF, 1, 0, 32, 0, 0, 1, 0),
                (BUFF, 2, 0, 64, 0, 0, 1, 0), (BUFF, 3, 0, 16, 0, 0, 1, 0))
        self.assertEqual(rest(*ring), (0, []))
        self.assertEqual(rest(*ring, (HURT, 1, 1, 0)), (0, [[(3, 1)], [(2, 2)], [(2, 3)]]))
        self.assertEqual(rest(*ring, (HURT, 2, 1, 0)), (0, [[(3, 2)], [(2, 3)], [(2, 1)]]))

    def test_what_goes_still_gives_in_its_last_round(self):
        # Thing 1 lasts by thing 2, which goes in the first round: thing 1 stands that round, and goes in the next.
        calls = (ALIVE, being(2), being(0), (BUFF, 2, 0, 0, 0, 1, 0, LASTING), (HURT, 1, 5, 0))
        self.assertEqual(rest(*calls), (0, [[(2, 2)], [(3, 1)]]))

    def test_what_weakens_goes_too_late(self):
        calls = (ALIVE, being(1), being(1, p=1), (BUFF, 2, 2, 0, 0, 0, -1, 0), (HURT, 2, 1, 0))
        self.assertEqual(rest(*calls), (0, [[(2, 1), (3, 2)]]))

    def test_counters_meet_too_late_to_help_and_without_effect_on_toughness(self):
        calls = (ALIVE, being(1), (COUNT, 1, 1, 2))
        self.assertEqual(rest(*calls), (0, [[(2, 1), (9, 1)]]))
        calls = (ALIVE, being(2), (COUNT, 1, 1, 2))
        self.assertEqual(rest(*calls), (0, [[(9, 1)]]))
        self.assertEqual(seen(1, *calls)["toughness now"], seen(1, *calls, (REST,))["toughness now"])

    def test_the_one_that_goes_for_another_reason_still_drives_out_its_namesake(self):
        post = plain(POST, UNIQUE, name=7, standing=0)
        self.assertEqual(rest(ALIVE, post, plain(RELIC, UNIQUE, name=7)), (0, [[(5, 1), (6, 2)]]))

    def test_what_makes_unique_goes_in_the_same_round(self):
        weak = being(0, p=1)
        calls = (ALIVE, plain(RELIC, name=7), plain(RELIC, name=7), weak, (BUFF, 3, 2, 0, 0, 0, 0, UNIQUE))
        self.assertEqual(rest(*calls), (0, [[(6, 2), (2, 3)]]))

    def test_an_aura_whose_host_goes_stays_for_that_round(self):
        calls = (ALIVE, being(0), plain(AURA), (JOIN, 2, 1))
        self.assertEqual(rest(*calls), (0, [[(2, 1)], [(7, 2)]]))
        self.assertEqual(seen(2, *calls, (ROUND,))["host"], 1)

    def test_a_gear_whose_host_goes_comes_off_in_the_next_round(self):
        calls = (ALIVE, being(0), plain(GEAR), (JOIN, 2, 1))
        self.assertEqual(rest(*calls), (0, [[(2, 1)], [(8, 2)]]))
        self.assertEqual((seen(2, *calls, (ROUND,))["host"], seen(2, *calls, (REST,))["host"]), (1, 0))

    def test_a_call_between_the_rounds_may_attach_it_anew(self):
        calls = (ALIVE, being(0), plain(AURA), being(1), (JOIN, 2, 1), (ROUND,), (JOIN, 2, 3))
        self.assertEqual(rest(*calls), (0, []))

    def test_what_shuns_by_a_loan_drives_out_what_lends(self):
        # The gear lends shunning, comes off, and then the aura that came later may stay.
        calls = (ALIVE, being(1), plain(GEAR), (LEND, 2, 0, SHUNS), (JOIN, 2, 1), plain(AURA), (JOIN, 3, 1))
        self.assertEqual(rest(*calls), (0, [[(8, 2), (7, 3)]]))
        self.assertEqual(rest(*calls, (DROP, 3)), (0, [[(8, 2)]]))
        later = (*calls, (ROUND,), plain(AURA), (JOIN, 4, 1))
        self.assertEqual(rest(*later), (0, []))


class OneAfterAnother(unittest.TestCase):
    def test_a_gear_that_comes_off_lets_its_host_fall(self):
        calls = (ALIVE, being(0), plain(GEAR), (LEND, 2, 1, 0), (FIT, 2, 0, 0, 0, 2), (JOIN, 2, 1))
        self.assertEqual(rest(*calls), (0, [[(8, 2)], [(2, 1)]]))

    def test_a_ward_is_used_and_later_it_goes_all_the_same(self):
        # The first round heals thing 1; without thing 2, which goes then, its toughness isn't enough.
        calls = (ALIVE, being(0, 5), being(0), (BUFF, 2, 0, 0, 0, 0, 1, 0), (COUNT, 2, 0, 1), (HURT, 1, 1, 1))
        self.assertEqual(rest(*calls), (0, [[(4, 1), (2, 2)], [(2, 1)]]))

    def test_a_host_an_aura_on_it_and_what_the_aura_holds_up(self):
        # Thing 1 uses its ward while thing 3 goes; then the aura on that goes, and with it what thing 1 stood by.
        calls = (ALIVE, being(1, 1), (HURT, 1, 1, 0), plain(AURA, own=16), (BUFF, 2, 0, 0, 16, 1, 1, 0),
                 (COUNT, 1, 0, 1), being(0), (JOIN, 2, 3), (COUNT, 3, 0, 1))
        self.assertEqual(rest(*calls), (0, [[(4, 1), (2, 3)], [(7, 2)], [(2, 1)]]))

    def test_a_chain_of_64(self):
        """Thing k stands by the buff of thing k + 1 alone; the last one is hurt."""
        adds = [being(1 if n == 64 else 0, own=(n - 1) << 4) for n in range(1, 65)]
        buffs = [(BUFF, n, 0, (n - 2) << 4, (63 ^ (n - 2)) << 4, 0, 1, 0) for n in range(2, 65)]
        calls = (ALIVE, *adds, *buffs)
        self.assertEqual(rest(*calls), (0, []))
        self.assertEqual(rest(*calls, (HURT, 64, 1, 0)), (0, [[(3, 64)]] + [[(2, n)] for n in range(63, 0, -1)]))
        told = ask(*calls, (HURT, 64, 1, 0), (REST,), (THINGS,), (VOID, 0), (WHY, 64), (WHY, 1))[-4:]
        self.assertEqual(told, [[0], [0] + list(range(64, 0, -1)), [0, 0, 3], [0, 0, 2]])

    def test_a_chain_of_auras(self):
        adds = [plain(AURA) for _ in range(63)]
        calls = (ALIVE, plain(RELIC), *adds, *[(JOIN, n, n - 1) for n in range(2, 65)])
        self.assertEqual(rest(*calls), (0, []))
        self.assertEqual(rest(*calls, (DROP, 1)), (0, [[(7, n)] for n in range(2, 65)]))

    def test_a_host_that_goes_takes_all_its_auras_together(self):
        auras = [plain(AURA, p=k % 2) for k in range(5)]
        calls = (ALIVE, being(0), *auras, *[(JOIN, n, 1) for n in range(2, 7)], (REST,))
        told = ask(*calls, (VOID, 0), (VOID, 1))[-3:]
        self.assertEqual(told, [[0, 0, 2, 1, 2, 1, 5, 7, 2, 7, 3, 7, 4, 7, 5, 7, 6], [0, 1, 2, 4, 6], [0, 3, 5]])


class Results(unittest.TestCase):
    def test_a_side_loses_in_a_later_round_when_what_kept_it_is_gone(self):
        calls = (ALIVE, being(0, own=KEEPS), (DRY, 0, 1))
        self.assertEqual(rest(*calls), (1, [[(2, 1)], [(1, 0)]]))

    def test_a_keeper_that_is_held_up(self):
        calls = (ALIVE, plain(RELIC), plain(AURA, KEEPS), (JOIN, 2, 1), (LIFE, 0, -5), plain(RELIC, UNIQUE, name=3),
                 plain(RELIC, UNIQUE, name=3), (JOIN, 2, 4))
        self.assertEqual(rest(*calls), (1, [[(6, 4)], [(7, 2)], [(1, 0)]]))

    def test_both_sides_at_once_and_one_before_the_other(self):
        keepers = (ALIVE, being(0, own=KEEPS), plain(RELIC, KEEPS, p=1), (DRY, 0, 1), (MARKS, 1, 10))
        self.assertEqual(rest(*keepers), (1, [[(2, 1)], [(1, 0)]]))
        weak = (ALIVE, being(0, own=KEEPS), being(-1, own=KEEPS, p=1), (DRY, 0, 1), (MARKS, 1, 10))
        self.assertEqual(rest(*weak), (3, [[(2, 1), (2, 2)], [(1, 0), (1, 1)]]))

    def test_a_result_ends_the_rest_though_more_is_due(self):
        calls = (being(0), plain(AURA), (JOIN, 2, 1))
        self.assertEqual(rest(*calls), (3, [[(1, 0), (1, 1), (2, 1)]]))
        self.assertEqual(ask(*calls, (REST,), (THINGS,), (SIDES,))[-2:], [[0, 2], [0, 0, 0, 0, 0, 0, 0, 3]])
        self.assertEqual(due(*calls, (REST,)), [(1, 0), (1, 1), (7, 2)])

    def test_the_result_stays_until_the_next_begin(self):
        lost = (ALIVE, (DRY, 0, 1), (ROUND,))
        self.assertEqual(ask(*lost, (DRY, 0, 0), (LIFE, 0, 5), (ROUND,), (SIDES,))[-4:],
                         [[-3], [-3], [-3], [0, 5, 5, 0, 0, 1, 0, 1]])
        self.assertEqual(ask(*lost, ALIVE, (ROUND,), (SIDES,))[-2:], [[0, 0], [0, 5, 5, 0, 0, 0, 0, 0]])


class Going(unittest.TestCase):
    def test_things_go_in_the_order_of_their_numbers(self):
        things = [being(0), plain(POST, standing=0), plain(RELIC, UNIQUE, name=1), plain(AURA),
                  plain(GEAR, UNIQUE, name=1), being(0, p=1), being(1)]
        calls = (ALIVE, *things, (HURT, 7, 1, 0), (ROUND,))
        told = ask(*calls, (VOID, 0), (VOID, 1), (THINGS,), *[(WHY, n) for n in range(1, 8)])[-10:]
        self.assertEqual(told[:3], [[0, 1, 2, 4, 5, 7], [0, 6], [0, 3]])
        self.assertEqual(told[3:], [[0, 0, 2], [0, 0, 5], [-2], [0, 0, 7], [0, 0, 6], [0, 1, 2], [0, 0, 3]])

    def test_a_later_round_comes_behind_an_earlier_one(self):
        calls = (ALIVE, plain(AURA), being(0), being(0), (JOIN, 1, 3), (REST,))
        self.assertEqual(last(*calls, (VOID, 0)), [0, 2, 3, 1])
        self.assertEqual(last(*calls, plain(AURA), (DROP, 4), (VOID, 0)), [0, 2, 3, 1, 4])

    def test_a_number_is_given_only_once(self):
        weak = being(0)
        calls = (ALIVE, weak, weak, (REST,), weak, (DROP, 3), weak, weak, (REST,), weak)
        told = ask(*calls, (THINGS,), (VOID, 0))
        self.assertEqual([each for call, each in zip(calls, told) if call == weak],
                         [[0, n] for n in (1, 2, 3, 4, 5, 6)])
        self.assertEqual(told[-2:], [[0, 6], [0, 1, 2, 3, 4, 5]])

    def test_many_more_than_64_may_be_added_one_after_another(self):
        weak = being(0)
        calls = [ALIVE] + [weak, (ROUND,)] * 190 + [weak, (THINGS,)]
        told = ask(*calls)
        self.assertEqual([each for call, each in zip(calls, told) if call == weak], [[0, n] for n in range(1, 192)])
        self.assertEqual(told[-1], [0, 191])

    def test_64_things_there_are_counted_without_those_that_are_gone(self):
        relics = [plain(RELIC) for _ in range(60)]
        weak = [being(0)] * 4
        told = ask(ALIVE, *relics, *weak, being(1), (REST,), *weak, being(1), (DROP, 66), being(1), being(1), (THINGS,))
        self.assertEqual(told[65:], [[-5], [0, 0, 1, 4, 2, 61, 2, 62, 2, 63, 2, 64], [0, 65], [0, 66], [0, 67], [0, 68],
                                     [-5], [0], [0, 69], [-5], [0] + list(range(1, 61)) + [65, 67, 68, 69]])
