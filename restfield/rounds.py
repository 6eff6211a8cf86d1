"""A round, which does all that is due at once, and resting, which is rounds until nothing is due."""

from restfield.dues import COUNTERS_MEET, GEAR_COMES_OFF, SIDE_LOSES, USES_WARD, what_is_due
from restfield.state import NO_HOST, NO_RESULT

KINDS_TO_GO = (2, 3, 5, 6, 7)


def lose(field, p):
    # The results 1 and 2 are one bit for each side, so both together make 3.
    field.result = field.result | (p + 1)


def use_ward(thing):
    thing.wards = thing.wards - 1
    thing.damage = 0
    thing.poisoned = 0


def cancel_counters(thing):
    fewer = min(thing.plus, thing.minus)
    thing.plus = thing.plus - fewer
    thing.minus = thing.minus - fewer


def act_on_thing(field, kind, n):
    thing = field.things[n]
    if kind in KINDS_TO_GO:
        field.let_go(n, kind)
    if kind == USES_WARD:
        use_ward(thing)
    if kind == GEAR_COMES_OFF:
        thing.host = NO_HOST
    if kind == COUNTERS_MEET:
        cancel_counters(thing)


def do_round(field):
    """Does one round and gives back the pairs that were due."""
    pairs = what_is_due(field)
    for kind, number in pairs:
        if kind == SIDE_LOSES:
            lose(field, number)
        # A thing's least kind stands first, so it goes for its least reason; what else is due of it is left out then.
        elif number in field.things:
            act_on_thing(field, kind, number)
    return pairs


def rest_field(field):
    """Does rounds until nothing is due or there is a result; gives back the pairs of each round."""
    rounds = []
    while field.result == NO_RESULT:
        pairs = do_round(field)
        if len(pairs) == 0:
            break
        rounds.append(pairs)
    return rounds
