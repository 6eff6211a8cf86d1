"""Whom buffs, loans and fits reach, and what a thing has now."""

import unittest

from tests.helper import (ADD, AURA, BEGIN, BEING, BUFF, COUNT, DROP, FIT, GEAR, GIVE, GROUP, HOSTS, JOIN, LEND, PART,
                          RELIC, ROUND, SHUNS, ask, due, last, seen)

# Own qualities 0, 16, 32 and 48 on side 0 (the things 1 to 4) and on side 1 (the things 5 to 8).
EIGHT = tuple((ADD, p, RELIC, 0, own, 0, 0, 0) for p in (0, 1) for own in (0, 16, 32, 48))
# Thing 9, with 16 as its own qualities, on side 0 or 1.
NINTH = {p: (ADD, p, GEAR, 0, 16, 0, 0, 0) for p in (0, 1)}

NEED_AND_BAN = (
    (0, 0, (0, 16, 32, 48)), (16, 0, (16, 48)), (32, 0, (32, 48)), (48, 0, (48,)), (0, 16, (0, 32)), (0, 32, (0, 16)),
    (0, 48, (0,)), (16, 32, (16,)), (32, 16, (32,)), (16, 16, ()), (48, 16, ()), (64, 0, ()), (0, 64, (0, 16, 32, 48)),
    (80, 0, ()), (16, 65535 - 16, (16,)), (16, 65535 - 48, (16, 48)), (65535, 0, ()), (0, 65535, (0,)),
)


def expected(p, whose, owns, with_ninth):
    """The things that fit, for a thing 9 of side p."""
    sides = {0: (0, 1), 1: (p,), 2: (1 - p,)}[whose]
    found = [4 * q + 1 + (0, 16, 32, 48).index(own) for q in sides for own in owns]
    return sorted(found) + ([9] if with_ninth and p in sides and 16 in owns else [])


def rows():
    for p in (0, 1):
        for whose in (0, 1, 2):
            for need, ban, owns in NEED_AND_BAN:
                yield p, whose, need, ban, owns


class Reach(unittest.TestCase):
    def test_buffs_with_each_whose_need_ban_and_others(self):
        for p, whose, need, ban, owns in rows():
            for others in (0, 1):
                with self.subTest(p=p, whose=whose, need=need, ban=ban, others=others):
                    calls = (*EIGHT, NINTH[p], (BUFF, 9, whose, need, ban, others, 3, 64))
                    group = expected(p, whose, owns, others == 0)
                    self.assertEqual(last(*calls, (GROUP, 9)), [0] + group)
                    for n in range(1, 10):
                        look = seen(n, *calls)
                        given = (3, 64) if n in group else (0, 0)
                        self.assertEqual((look["toughness now"], look["qualities now"] - look["qualities"]), given)

    def test_fits_with_each_whose_need_and_ban(self):
        for p, whose, need, ban, owns in rows():
            with self.subTest(p=p, whose=whose, need=need, ban=ban):
                calls = (*EIGHT, NINTH[p], (FIT, 9, whose, need, ban, 31))
                self.assertEqual(last(*calls, (HOSTS, 9)), [0] + expected(p, whose, owns, False))

    def test_who_is_reached_never_hangs_on_qualities_now(self):
        giver = (ADD, 0, RELIC, 0, 0, 0, 0, 0)
        calls = (giver, giver, giver, (BUFF, 1, 0, 0, 0, 0, 0, 16))
        self.assertEqual(seen(2, *calls)["qualities now"], 16)
        self.assertEqual(last(*calls, (BUFF, 2, 0, 16, 0, 0, 1, 0), (GROUP, 2)), [0])
        self.assertEqual(last(*calls, (BUFF, 2, 0, 0, 16, 0, 1, 0), (GROUP, 2)), [0, 1, 2, 3])
        self.assertEqual(last(*calls, (FIT, 2, 0, 16, 0, 31), (HOSTS, 2)), [0])
        self.assertEqual(last(*calls, (FIT, 2, 0, 0, 16, 31), (HOSTS, 2)), [0, 1, 3])

    def test_need_and_ban_of_the_bits_that_mean_something_ask_own_qualities_too(self):
        relic = (ADD, 0, RELIC, 0, 0, 0, 0, 0)
        for bit in (1, 2, 4, 8):
            own = (ADD, 0, RELIC, 0, bit, 0, 0, 0)
            calls = (relic, relic, own, (BUFF, 1, 0, 0, 0, 1, 0, bit))
            self.assertEqual(last(*calls, (BUFF, 3, 0, bit, 0, 0, 0, 0), (GROUP, 3)), [0, 3])
            self.assertEqual(last(*calls, (BUFF, 3, 0, 0, bit, 0, 0, 0), (GROUP, 3)), [0, 1, 2])

    def test_a_buff_reaches_every_kind(self):
        kinds = tuple((ADD, 0, kind, 0, 0, 1, 0, 1) for kind in range(5))
        for n in range(1, 6):
            calls = (*kinds, (BUFF, n, 0, 0, 0, 0, 4, 32))
            self.assertEqual(last(*calls, (GROUP, n)), [0, 1, 2, 3, 4, 5])
            self.assertEqual([seen(m, *calls)["toughness now"] for m in range(1, 6)], [5] * 5)


class Loans(unittest.TestCase):
    def check(self, n, toughness, qualities, *calls):
        look = seen(n, *calls)
        self.assertEqual((look["toughness now"], look["qualities now"]), (toughness, qualities))

    def setUp(self):
        self.calls = ((BEGIN, 5, 5), (ADD, 0, BEING, 0, 16, 2, 0, 0), (ADD, 1, BEING, 0, 0, 1, 0, 0),
                      (ADD, 0, AURA, 0, 0, 0, 0, 0), (ADD, 1, GEAR, 0, 0, 0, 0, 0), (LEND, 3, 3, 32), (LEND, 4, -1, 80))

    def test_a_loan_reaches_the_host_and_nothing_else(self):
        for n in range(1, 5):
            self.assertEqual(seen(n, *self.calls)["qualities now"], seen(n, *self.calls)["qualities"])
        joined = (*self.calls, (JOIN, 3, 1))
        self.check(1, 5, 48, *joined)
        self.check(2, 1, 0, *joined)
        self.check(3, 0, 0, *joined)
        self.check(4, 0, 0, *joined)

    def test_two_loans_add_up(self):
        self.check(1, 4, 112, *self.calls, (JOIN, 3, 1), (JOIN, 4, 1))

    def test_a_loan_ends_with_part_with_another_join_and_when_the_lender_goes(self):
        joined = (*self.calls, (JOIN, 3, 1))
        for call in ((PART, 3), (JOIN, 3, 2), (DROP, 3)):
            self.check(1, 2, 16, *joined, call)
        self.check(2, 4, 32, *joined, (JOIN, 3, 2))

    def test_a_loan_is_the_one_set_last(self):
        self.check(1, 1, 16, *self.calls, (JOIN, 3, 1), (LEND, 3, -1, 0))

    def test_a_loan_reaches_a_host_to_which_the_thing_may_not_be_attached(self):
        for fit in ((FIT, 3, 0, 0, 0, 0), (FIT, 3, 2, 0, 0, 31), (FIT, 3, 0, 64, 0, 31), (FIT, 3, 0, 0, 16, 31)):
            calls = (*self.calls, fit, (JOIN, 3, 1))
            self.assertNotIn(1, last(*calls, (HOSTS, 3))[1:])
            self.check(1, 5, 48, *calls)
            self.check(1, 2, 16, *calls, (ROUND,))

    def test_a_loan_reaches_a_host_that_shuns(self):
        calls = (*self.calls, (LEND, 3, 3, SHUNS), (JOIN, 3, 1))
        self.check(1, 5, 16 + SHUNS, *calls)
        self.assertEqual(due(*calls), [(7, 3)])

    def test_a_loan_to_a_host_that_is_gone_reaches_nothing(self):
        calls = (*self.calls, (JOIN, 3, 1), (DROP, 1))
        self.assertEqual([seen(n, *calls)["toughness now"] for n in (2, 3, 4)], [1, 0, 0])
        self.assertEqual(seen(3, *calls)["host"], 1)

    def test_a_loan_to_one_that_lends_too(self):
        calls = (*self.calls, (JOIN, 3, 4), (JOIN, 4, 3))
        self.check(4, 3, 32, *calls)
        self.check(3, -1, 80, *calls)

    def test_a_being_lends_nothing_for_it_has_no_host(self):
        self.check(1, 2, 16, *self.calls, (LEND, 2, 9, 9), (LEND, 1, 9, 9))


class Now(unittest.TestCase):
    def test_buffs_loans_and_counters_add_up(self):
        calls = ((ADD, 0, BEING, 0, 16, 5, 0, 0), (ADD, 0, GEAR, 0, 32, 0, 0, 0), (ADD, 1, RELIC, 0, 0, 0, 0, 0),
                 (BUFF, 1, 1, 0, 0, 0, 10, 64), (BUFF, 2, 0, 16, 0, 0, 100, 128), (BUFF, 3, 2, 0, 0, 0, -1000, 256),
                 (LEND, 2, 10000, 512), (JOIN, 2, 1), (COUNT, 1, 100000, 3))
        look = seen(1, *calls)
        self.assertEqual(look["toughness now"], 5 + 10 + 100 - 1000 + 10000 + 100000 - 3)
        self.assertEqual(look["qualities now"], 16 | 64 | 128 | 256 | 512)
        self.assertEqual((look["toughness"], look["qualities"]), (5, 16))

    def test_the_same_buff_of_two_things_counts_twice_its_bits_once(self):
        relic = (ADD, 0, RELIC, 0, 16, 0, 0, 0)
        calls = (relic, relic, (BUFF, 1, 0, 0, 0, 0, 2, 48), (BUFF, 2, 0, 0, 0, 0, 2, 48))
        look = seen(1, *calls)
        self.assertEqual((look["toughness now"], look["qualities now"]), (4, 48))

    def test_a_buff_set_anew_takes_the_place_of_the_first(self):
        relic = (ADD, 0, RELIC, 0, 0, 0, 0, 0)
        calls = (relic, (BUFF, 1, 0, 0, 0, 0, 2, 16), (BUFF, 1, 0, 0, 0, 0, -5, 0))
        look = seen(1, *calls)
        self.assertEqual((look["toughness now"], look["qualities now"]), (-5, 0))

    def test_all_sixteen_bits(self):
        for k in range(16):
            relic = (ADD, 0, RELIC, 0, 2 ** k, 0, 0, 0)
            told = ask(relic, (BUFF, 1, 0, 2 ** k, 65535 - 2 ** k, 0, 0, 65535), (GROUP, 1), (20, 1))
            self.assertEqual(told[2:], [[0, 1], [0, 0, RELIC, 0, 2 ** k, 65535, 0, 0, 0, 0, 0, 0, 0, 0, 0]])

    def test_a_thing_added_later_is_reached(self):
        relic = (ADD, 0, RELIC, 0, 0, 0, 0, 0)
        self.assertEqual(seen(2, relic, (BUFF, 1, 0, 0, 0, 1, 7, 1), relic)["toughness now"], 7)

    def test_a_buff_follows_the_sides(self):
        relics = ((ADD, 0, RELIC, 0, 0, 0, 0, 0), (ADD, 1, RELIC, 0, 0, 0, 0, 0))
        for whose, same, other in ((0, 3, 3), (1, 3, 0), (2, 0, 3)):
            calls = (*relics, (BUFF, 1, whose, 0, 0, 0, 3, 0))
            self.assertEqual(seen(2, *calls)["toughness now"], other)
            self.assertEqual(seen(2, *calls, (GIVE, 2, 0))["toughness now"], same)
            self.assertEqual(seen(2, *calls, (GIVE, 1, 1))["toughness now"], same)

    def test_shunning_by_a_buff_or_a_loan_alone(self):
        relics = ((ADD, 0, RELIC, 0, 0, 0, 0, 0), (ADD, 0, RELIC, 0, 16, 0, 0, 0), (ADD, 0, GEAR, 0, 0, 0, 0, 0),
                  (ADD, 0, AURA, 0, 0, 0, 0, 0))
        self.assertEqual(last(*relics, (HOSTS, 4)), [0, 1, 2, 3])
        self.assertEqual(last(*relics, (BUFF, 1, 0, 16, 0, 0, 0, SHUNS), (HOSTS, 4)), [0, 1, 3])
        self.assertEqual(last(*relics, (LEND, 3, 0, SHUNS), (JOIN, 3, 1), (HOSTS, 4)), [0, 2, 3])
        self.assertEqual(last(*relics, (LEND, 3, 0, SHUNS), (JOIN, 3, 1), (HOSTS, 3)), [0, 2, 4])
        self.assertEqual(last(*relics, (LEND, 3, 0, 65535 - SHUNS), (JOIN, 3, 1), (HOSTS, 4)), [0, 1, 2, 3])
