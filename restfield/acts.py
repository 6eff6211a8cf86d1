"""What each call does where it is not refused; each act gives back what is told behind the 0."""

from restfield.dues import what_is_due
from restfield.reach import group_of, hosts_of, now_of
from restfield.refusals import refusal_due
from restfield.rounds import do_round, rest_field
from restfield.state import NO_HOST, POST, Buff, Fit, Loan, Thing

MOST = 1000000000
BY_A_CALL = 0


def bounded(amount):
    return max(0, min(amount, MOST))


def begin(field, given):
    field.begin_anew(given["life_0"], given["life_1"])
    return []


def add_thing(field, given):
    field.last_number += 1
    field.things[field.last_number] = Thing(
        given["p"],
        given["kind"],
        given["name"],
        given["qualities"],
        given["toughness"],
        given["wards"],
        given["standing"],
    )
    return [field.last_number]


def set_buff(field, given):
    field.things[given["n"]].buff = Buff(
        given["whose"],
        given["need"],
        given["ban"],
        given["others"],
        given["toughness"],
        given["qualities"],
    )
    return []


def set_loan(field, given):
    field.things[given["n"]].loan = Loan(given["toughness"], given["qualities"])
    return []


def set_fit(field, given):
    field.things[given["n"]].fit = Fit(given["whose"], given["need"], given["ban"], given["kinds"])
    return []


def attach(field, given):
    field.things[given["n"]].host = given["h"]
    return []


def detach(field, given):
    thing = field.things[given["n"]]
    host = thing.host
    thing.host = NO_HOST
    return [host]


def hurt(field, given):
    thing = field.things[given["n"]]
    if thing.kind == POST:
        thing.standing = bounded(thing.standing - given["k"])
        return [thing.standing]
    thing.damage = bounded(thing.damage + given["k"])
    if given["poison"] == 1 and given["k"] != 0:
        thing.poisoned = 1
    return [thing.damage]


def change_counters(field, given):
    thing = field.things[given["n"]]
    thing.plus = bounded(thing.plus + given["plus_delta"])
    thing.minus = bounded(thing.minus + given["minus_delta"])
    return [thing.plus, thing.minus]


def change_standing(field, given):
    thing = field.things[given["n"]]
    thing.standing = bounded(thing.standing + given["delta"])
    return [thing.standing]


def change_wards(field, given):
    thing = field.things[given["n"]]
    thing.wards = bounded(thing.wards + given["delta"])
    return [thing.wards]


def change_life(field, given):
    side = field.sides[given["p"]]
    side.life += given["delta"]
    return [side.life]


def change_marks(field, given):
    side = field.sides[given["p"]]
    side.marks = bounded(side.marks + given["delta"])
    return [side.marks]


def set_dry(field, given):
    field.sides[given["p"]].dry = given["v"]
    return []


def drop(field, given):
    field.let_go(given["n"], BY_A_CALL)
    return []


def give(field, given):
    field.things[given["n"]].side = given["p"]
    return []


def mend(field, given):
    damaged = 0
    for thing in field.things.values():
        if thing.damage > 0:
            damaged += 1
        thing.damage = 0
        thing.poisoned = 0
    return [damaged]


def told_pairs(pairs):
    """How many pairs there are, then the pairs, number by number."""
    numbers = [len(pairs)]
    for pair in pairs:
        numbers.extend(pair)
    return numbers


def tell_due(field, given):
    return told_pairs(what_is_due(field))


def one_round(field, given):
    return told_pairs(do_round(field))


def rest(field, given):
    rounds = rest_field(field)
    numbers = [field.result, len(rounds)]
    for pairs in rounds:
        numbers.extend(told_pairs(pairs))
    return numbers


def look(field, given):
    thing = field.things[given["n"]]
    now = now_of(field, given["n"])
    return [
        thing.side,
        thing.kind,
        thing.name,
        thing.qualities,
        now.qualities,
        thing.toughness,
        now.toughness,
        thing.damage,
        thing.poisoned,
        thing.plus,
        thing.minus,
        thing.wards,
        thing.standing,
        thing.host,
    ]


def tell_things(field, given):
    return list(field.things)


def tell_void(field, given):
    return [n for n, gone in field.gone.items() if gone.side == given["p"]]


def tell_sides(field, given):
    first = field.sides[0]
    second = field.sides[1]
    return [first.life, second.life, first.marks, second.marks, first.dry, second.dry, field.result]


def tell_group(field, given):
    return group_of(field, given["n"])


def tell_hosts(field, given):
    return hosts_of(field, given["n"])


def tell_why(field, given):
    gone = field.gone[given["n"]]
    return [gone.side, gone.reason]


ACTS = {
    0: begin,
    1: add_thing,
    2: set_buff,
    3: set_loan,
    4: set_fit,
    5: attach,
    6: detach,
    7: hurt,
    8: change_counters,
    9: change_standing,
    10: change_wards,
    11: change_life,
    12: change_marks,
    13: set_dry,
    14: drop,
    15: give,
    16: mend,
    17: tell_due,
    18: one_round,
    19: rest,
    20: look,
    21: tell_things,
    22: tell_void,
    23: tell_sides,
    24: tell_group,
    25: tell_hosts,
    26: tell_why,
}


def answer(field, call, given):
    """The whole answer to one call, given being its numbers by their names."""
    refusal = refusal_due(field, call, given)
    if refusal != 0:
        return [refusal]
    act = ACTS[call]
    return [0] + act(field, given)
