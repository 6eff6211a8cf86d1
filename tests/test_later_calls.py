"""Each of the calls 14 to 26 with ordinary numbers, its whole answer, and what it changes."""

import unittest

from tests.helper import (ADD, ALIVE, AURA, BEGIN, BEING, BUFF, COUNT, DROP, DRY, DUE, FIT, GEAR, GIVE, GROUP, HOSTS,
                          HURT, JOIN, KEEPS, LASTING, LEND, LIFE, LOOK, MARKS, MEND, PART, POST, RELIC, REST, ROUND,
                          SHUNS, SIDES, SIX_THINGS, STAND, THINGS, UNIQUE, USED_FIELD, USED_FIELD_WITH_RESULT, VOID,
                          WARD, WHY, ask, due, last, seen, view)

SIX_ALIVE = (ALIVE,) + SIX_THINGS


class Drop(unittest.TestCase):
    def test_it_is_gone_with_the_reason_0(self):
        for n in range(1, 7):
            side = seen(n, *SIX_THINGS)["side"]
            told = ask(*SIX_THINGS, (DROP, n), (WHY, n), (LOOK, n), (THINGS,), (VOID, side), (VOID, 1 - side))[6:]
            self.assertEqual(told, [[0], [0, side, 0], [-2], [0] + [m for m in range(1, 7) if m != n], [0, n], [0]])

    def test_the_reason_is_0_whatever_is_due(self):
        self.assertEqual(due(*SIX_ALIVE), [(7, 4)])
        self.assertEqual(last(*SIX_ALIVE, (DROP, 4), (WHY, 4)), [0, 0, 0])

    def test_the_others_are_as_they_were(self):
        self.assertEqual(ask(*USED_FIELD, (DROP, 3), *[(LOOK, n) for n in (1, 2, 4, 5, 6)])[-5:],
                         ask(*USED_FIELD, *[(LOOK, n) for n in (1, 2, 4, 5, 6)])[-5:])
        self.assertEqual(last(*USED_FIELD, (DROP, 3), (SIDES,)), last(*USED_FIELD, (SIDES,)))

    def test_what_it_gave_is_given_no_more(self):
        calls = (*SIX_THINGS, (BUFF, 3, 0, 0, 0, 0, 5, 16), (JOIN, 4, 1), (LEND, 4, 7, 32))
        self.assertEqual(seen(1, *calls)["toughness now"], 14)
        self.assertEqual(seen(1, *calls, (DROP, 3))["toughness now"], 9)
        self.assertEqual(seen(1, *calls, (DROP, 4))["qualities now"], 16)
        self.assertEqual(seen(1, *calls, (DROP, 4), (DROP, 3))["toughness now"], 2)

    def test_what_is_attached_to_it_keeps_its_number(self):
        calls = (*SIX_ALIVE, (JOIN, 4, 1), (JOIN, 5, 1), (DROP, 1))
        self.assertEqual((seen(4, *calls)["host"], seen(5, *calls)["host"]), (1, 1))
        self.assertEqual(last(*calls, (PART, 4)), [0, 1])
        self.assertEqual(seen(4, *calls, (JOIN, 4, 2))["host"], 2)
        self.assertEqual(due(*calls), [(7, 4), (8, 5)])
        self.assertEqual(seen(5, *calls, (ROUND,))["host"], 0)

    def test_a_dropped_thing_may_have_been_attached(self):
        calls = (*SIX_ALIVE, (JOIN, 4, 5), (JOIN, 5, 4), (DROP, 4))
        self.assertEqual(seen(5, *calls)["host"], 4)
        self.assertEqual(last(*calls, (REST,)), [0, 0, 1, 1, 8, 5])


class Give(unittest.TestCase):
    def test_the_side_changes_and_nothing_else(self):
        for n in range(1, 7):
            for p in (0, 1):
                self.assertEqual(last(*USED_FIELD, (GIVE, n, p)), [0])
                was, now = seen(n, *USED_FIELD), seen(n, *USED_FIELD, (GIVE, n, p))
                own = [part for part in was if not part.endswith("now")]
                self.assertEqual([now[part] for part in own], [p if part == "side" else was[part] for part in own])

    def test_giving_it_to_its_own_side_changes_nothing(self):
        self.assertEqual(view(7, *USED_FIELD, (GIVE, 1, 0), (GIVE, 2, 1)), view(7, *USED_FIELD))

    def test_whose_is_told_from_the_side_then(self):
        calls = (*SIX_THINGS, (BUFF, 1, 1, 0, 0, 0, 1, 0), (FIT, 4, 2, 0, 0, 31))
        self.assertEqual(ask(*calls, (GROUP, 1), (GIVE, 1, 1), (GROUP, 1))[-3:], [[0, 1, 3, 4], [0], [0, 1, 2, 5, 6]])
        self.assertEqual(ask(*calls, (HOSTS, 4), (GIVE, 4, 1), (HOSTS, 4))[-3:], [[0, 2, 5, 6], [0], [0, 1, 3]])
        self.assertEqual(ask(*calls, (GIVE, 2, 0), (GROUP, 1), (HOSTS, 4))[-2:], [[0, 1, 2, 3, 4], [0, 5, 6]])

    def test_it_goes_from_the_side_it_has_then(self):
        told = ask(*SIX_THINGS, (GIVE, 1, 1), (DROP, 1), (VOID, 0), (VOID, 1), (WHY, 1))[8:]
        self.assertEqual(told, [[0], [0, 1], [0, 1, 0]])
        told = ask(*SIX_ALIVE, (GIVE, 4, 1), (ROUND,), (VOID, 0), (VOID, 1), (WHY, 4))[8:]
        self.assertEqual(told, [[0, 1, 7, 4], [0], [0, 4], [0, 1, 7]])

    def test_it_keeps_the_side_it_is_given_to(self):
        keeper = ((ADD, 0, RELIC, 0, KEEPS, 0, 0, 0),)
        self.assertEqual(due(*keeper), [(1, 1)])
        self.assertEqual(due(*keeper, (GIVE, 1, 1)), [(1, 0)])


class Mend(unittest.TestCase):
    def test_it_counts_what_had_damage(self):
        beings = [(ADD, k % 2, BEING, 0, 0, 9, 0, 0) for k in range(5)]
        hurts = ((HURT, 1, 1, 0), (HURT, 2, 3, 1), (HURT, 4, 20, 0), (HURT, 5, 0, 1))
        told = ask(*beings, *hurts, (MEND,), *[(LOOK, n) for n in range(1, 6)], (MEND,))[9:]
        self.assertEqual((told[0], told[-1]), ([0, 3], [0, 0]))
        self.assertEqual([look[8:10] for look in told[1:-1]], [[0, 0]] * 5)

    def test_nothing_there_or_nothing_hurt(self):
        self.assertEqual(last((MEND,)), [0, 0])
        self.assertEqual(last(*SIX_THINGS, (MEND,)), [0, 0])

    def test_what_is_gone_is_not_counted(self):
        told = last(*SIX_THINGS, (HURT, 1, 1, 0), (HURT, 2, 1, 0), (DROP, 2), (MEND,))
        self.assertEqual(told, [0, 1])

    def test_nothing_else_changes(self):
        was, now = view(7, *USED_FIELD), view(7, *USED_FIELD, (MEND,))
        self.assertEqual(last(*USED_FIELD, (MEND,)), [0, 2])
        self.assertEqual([k for k in range(len(was)) if was[k] != now[k]], [5, 9])
        self.assertEqual(now[5], was[5][:8] + [0, 0] + was[5][10:])
        self.assertEqual(now[9], was[9][:8] + [0, 0] + was[9][10:])

    def test_a_mended_being_stays(self):
        hurt = (ALIVE, (ADD, 0, BEING, 0, 0, 3, 0, 0), (HURT, 1, 3, 1))
        self.assertEqual(due(*hurt), [(3, 1)])
        self.assertEqual(due(*hurt, (MEND,)), [])


class DueRoundRest(unittest.TestCase):
    def test_nothing_is_due(self):
        self.assertEqual(ask(*USED_FIELD, (DUE,), (ROUND,), (REST,))[-3:], [[0, 0], [0, 0], [0, 0, 0]])
        self.assertEqual(view(7, *USED_FIELD, (ROUND,), (REST,)), view(7, *USED_FIELD))

    def test_a_new_lists_sides_lose(self):
        self.assertEqual(ask((DUE,), (ROUND,), (SIDES,)), [[0, 2, 1, 0, 1, 1], [0, 2, 1, 0, 1, 1],
                                                           [0, 0, 0, 0, 0, 0, 0, 3]])
        self.assertEqual(last((REST,)), [0, 3, 1, 2, 1, 0, 1, 1])

    def test_due_is_told_whatever_the_result_is(self):
        for result, losing in ((1, [1, 1, 0]), (2, [1, 1, 1]), (3, [2, 1, 0, 1, 1])):
            calls = USED_FIELD_WITH_RESULT[result]
            self.assertEqual(last(*calls, (DUE,)), [0] + losing)

    def test_a_round_does_one_round(self):
        # The aura goes one round after its host.
        calls = (*SIX_ALIVE, (JOIN, 4, 1), (HURT, 1, 2, 0))
        told = ask(*calls, (ROUND,), (THINGS,), (ROUND,), (THINGS,), (ROUND,), (THINGS,))[len(calls):]
        self.assertEqual(told, [[0, 1, 3, 1], [0, 2, 3, 4, 5, 6], [0, 1, 7, 4], [0, 2, 3, 5, 6], [0, 0],
                                [0, 2, 3, 5, 6]])

    def test_a_rest_does_all_rounds(self):
        calls = (*SIX_ALIVE, (JOIN, 4, 1), (HURT, 1, 2, 0))
        self.assertEqual(ask(*calls, (REST,), (THINGS,))[-2:], [[0, 0, 2, 1, 3, 1, 1, 7, 4], [0, 2, 3, 5, 6]])


class Look(unittest.TestCase):
    def test_every_number_in_its_place(self):
        calls = ((ADD, 1, GEAR, 101, 2, -3, 104, 105), (ADD, 0, RELIC, 0, 0, 0, 0, 0), (BUFF, 1, 1, 0, 0, 0, 10, 48),
                 (COUNT, 1, 106, 107), (JOIN, 1, 2))
        self.assertEqual(last(*calls, (LOOK, 1)), [0, 1, GEAR, 101, 2, 50, -3, 6, 0, 0, 106, 107, 104, 105, 2])

    def test_damage_and_poison(self):
        being = (ADD, 0, BEING, 0, LASTING, 4, 0, 0)
        self.assertEqual(last(being, (HURT, 1, 9, 1), (LOOK, 1)), [0, 0, BEING, 0, 1, 1, 4, 4, 9, 1, 0, 0, 0, 0, 0])

    def test_each_thing_of_the_used_field(self):
        told = ask(*USED_FIELD, *[(LOOK, n) for n in range(1, 8)])[-7:]
        self.assertEqual(told, [
            [0, 0, BEING, 0, 0, 65, 2, 4, 2, 1, 0, 0, 0, 0, 0],
            [0, 1, BEING, 7, 8, 136, 3, 4, 1, 0, 0, 0, 3, 0, 0],
            [0, 0, RELIC, 0, 0, 32, 0, 3, 0, 0, 2, 0, 0, 0, 0],
            [0, 0, AURA, 0, 0, 32, 0, 1, 0, 0, 0, 0, 0, 0, 1],
            [0, 1, GEAR, 0, 0, 0, 0, 0, 0, 0, 0, 0, 0, 0, 2],
            [0, 1, POST, 0, 0, 0, 0, -1, 0, 0, 0, 1, 0, 6, 0],
            [-2]])

    def test_looking_changes_nothing(self):
        self.assertEqual(view(7, *USED_FIELD, *[(LOOK, n) for n in range(9)]), view(7, *USED_FIELD))


class ThingsVoidSides(unittest.TestCase):
    def test_things(self):
        self.assertEqual(last((THINGS,)), [0])
        self.assertEqual(last(*SIX_THINGS, (THINGS,)), [0, 1, 2, 3, 4, 5, 6])
        self.assertEqual(last(*SIX_THINGS, (DROP, 1), (DROP, 4), SIX_THINGS[0], (THINGS,)), [0, 2, 3, 5, 6, 7])

    def test_void_is_in_the_order_of_going(self):
        drops = [(DROP, n) for n in (6, 3, 1, 5, 4, 2)]
        told = ask(*SIX_THINGS, *drops, (VOID, 0), (VOID, 1), (THINGS,))[12:]
        self.assertEqual(told, [[0, 3, 1, 4], [0, 6, 5, 2], [0]])

    def test_void_of_what_goes_in_rounds_and_by_drop(self):
        # Thing 4 goes first by a drop, then 1 and 3 in one round, then 2, which 3 held up.
        being = (ADD, 0, BEING, 0, 0, 0, 0, 0)
        calls = (ALIVE, being, being, (ADD, 0, BEING, 0, 16, 1, 0, 0), being, (BUFF, 3, 0, 0, 16, 1, 1, 0),
                 (BUFF, 1, 0, 16, 0, 1, 1, 0), (COUNT, 1, 0, 1), (HURT, 3, 2, 0), (DROP, 4), (REST,))
        told = ask(*calls, (VOID, 0), (VOID, 1))[-3:]
        self.assertEqual(told, [[0, 0, 2, 2, 2, 1, 3, 3, 1, 2, 2], [0, 4, 1, 3, 2], [0]])

    def test_sides(self):
        self.assertEqual(last((BEGIN, 20, 30), (SIDES,)), [0, 20, 30, 0, 0, 0, 0, 0])
        calls = ((BEGIN, 20, 30), (LIFE, 0, -25), (MARKS, 0, 3), (MARKS, 1, 9), (DRY, 1, 1))
        self.assertEqual(last(*calls, (SIDES,)), [0, -5, 30, 3, 9, 0, 1, 0])
        self.assertEqual(last(*calls, (ROUND,), (SIDES,)), [0, -5, 30, 3, 9, 0, 1, 3])
        self.assertEqual(last((DRY, 0, 1), (SIDES,)), [0, 0, 0, 0, 0, 1, 0, 0])


class GroupHosts(unittest.TestCase):
    def test_group_without_itself_where_others_is_1(self):
        self.assertEqual(last(*SIX_THINGS, (BUFF, 3, 0, 0, 0, 0, 0, 0), (GROUP, 3)), [0, 1, 2, 3, 4, 5, 6])
        self.assertEqual(last(*SIX_THINGS, (BUFF, 3, 0, 0, 0, 1, 0, 0), (GROUP, 3)), [0, 1, 2, 4, 5, 6])

    def test_group_may_be_empty(self):
        self.assertEqual(last(*SIX_THINGS, (BUFF, 3, 0, 16, 0, 0, 0, 0), (GROUP, 3)), [0])

    def test_group_leaves_out_what_is_gone(self):
        self.assertEqual(last(*SIX_THINGS, (DROP, 2), (DROP, 6), (GROUP, 3)), [0, 1, 3, 4, 5])

    def test_hosts_of_a_thing_of_any_kind(self):
        for n in range(1, 7):
            self.assertEqual(last(*SIX_THINGS, (HOSTS, n)), [0] + [m for m in range(1, 7) if m != n])

    def test_hosts_by_kind(self):
        for kind, there in ((BEING, [1, 2]), (RELIC, [3]), (AURA, []), (GEAR, [5]), (POST, [6])):
            self.assertEqual(last(*SIX_THINGS, (FIT, 4, 0, 0, 0, 2 ** kind), (HOSTS, 4)), [0] + there)
            rest = [n for n in (1, 2, 3, 5, 6) if n not in there]
            self.assertEqual(last(*SIX_THINGS, (FIT, 4, 0, 0, 0, 31 - 2 ** kind), (HOSTS, 4)), [0] + rest)
        self.assertEqual(last(*SIX_THINGS, (FIT, 4, 0, 0, 0, 0), (HOSTS, 4)), [0])
        self.assertEqual(last(*SIX_THINGS, (FIT, 4, 0, 0, 0, 4), (HOSTS, 5)), [0, 1, 2, 3, 4, 6])

    def test_hosts_leaves_out_what_is_gone_and_what_shuns(self):
        shunning = (ADD, 0, RELIC, 0, SHUNS, 0, 0, 0)
        self.assertEqual(last(*SIX_THINGS, shunning, (DROP, 2), (HOSTS, 4)), [0, 1, 3, 5, 6])

    def test_hosts_with_the_present_host(self):
        self.assertEqual(last(*SIX_THINGS, (JOIN, 4, 2), (HOSTS, 4)), [0, 1, 2, 3, 5, 6])


class Why(unittest.TestCase):
    def test_each_reason(self):
        calls = (ALIVE,
                 (ADD, 0, RELIC, 0, 0, 0, 0, 0),
                 (ADD, 1, BEING, 0, 0, 0, 0, 0),
                 (ADD, 0, BEING, 0, 0, 1, 0, 0), (HURT, 3, 1, 0),
                 (ADD, 1, POST, 0, 0, 0, 0, 0),
                 (ADD, 0, RELIC, 9, UNIQUE, 0, 0, 0),
                 (ADD, 0, RELIC, 9, UNIQUE, 0, 0, 0),
                 (ADD, 1, AURA, 0, 0, 0, 0, 0), (DROP, 1), (ROUND,))
        told = ask(*calls, *[(WHY, n) for n in range(9)])[-9:]
        self.assertEqual(told, [[-2], [0, 0, 0], [0, 1, 2], [0, 0, 3], [0, 1, 5], [-2], [0, 0, 6], [0, 1, 7], [-2]])

    def test_it_tells_the_same_later_and_when_there_is_a_result(self):
        calls = (*SIX_ALIVE, (DROP, 2), (ROUND,), (DRY, 0, 1), (ROUND,))
        self.assertEqual(ask(*calls, (WHY, 2), (WHY, 4), (WHY, 1))[-3:], [[0, 1, 0], [0, 0, 7], [-2]])


class Changes(unittest.TestCase):
    def test_what_only_asks_changes_nothing(self):
        for call in ((DUE,), (LOOK, 1), (THINGS,), (VOID, 0), (SIDES,), (GROUP, 1), (HOSTS, 4), (WHY, 7)):
            self.assertEqual(view(7, *USED_FIELD, call), view(7, *USED_FIELD))
            self.assertEqual(ask(*USED_FIELD, call, call)[-1], last(*USED_FIELD, call))

    def test_calls_after_a_round_are_taken_on_what_is_left(self):
        calls = (*SIX_ALIVE, (ROUND,), (STAND, 6, 1), (WARD, 2, 1), (GIVE, 5, 0), SIX_THINGS[0], (THINGS,))
        self.assertEqual(ask(*calls)[7:], [[0, 1, 7, 4], [0, 6], [0, 2], [0], [0, 7], [0, 1, 2, 3, 5, 6, 7]])
