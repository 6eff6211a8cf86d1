"""Which calls are refused, and with which number."""

from restfield.state import AURA, BEING, GEAR, NO_RESULT, POST

OUT_OF_RANGE = -1
NOT_THERE = -2
RESULT_STANDS = -3
WRONG_KIND = -4
FIELD_FULL = -5
ATTACHED_TO_ITSELF = -6

MOST_THINGS = 64

ADD = 1
JOIN = 5
HURT = 7
WHY = 26

CALLS_WITHOUT_RESULT = (1, 2, 3, 4, 5, 6, 7, 8, 9, 10, 11, 12, 13, 14, 15, 16, 18, 19)

RANGES = {
    "life_0": (0, 1000000000),
    "life_1": (0, 1000000000),
    "n": (0, 1000000000),
    "h": (0, 1000000000),
    "p": (0, 1),
    "kind": (0, 4),
    "name": (0, 1000000000),
    "whose": (0, 2),
    "need": (0, 65535),
    "ban": (0, 65535),
    "others": (0, 1),
    "qualities": (0, 65535),
    "toughness": (-1000000000, 1000000000),
    "wards": (0, 1000000000),
    "standing": (0, 1000000000),
    "kinds": (0, 31),
    "k": (0, 1000000000),
    "poison": (0, 1),
    "plus_delta": (-1000000000, 1000000000),
    "minus_delta": (-1000000000, 1000000000),
    "delta": (-1000000000, 1000000000),
    "v": (0, 1),
}


def within_range(name, number):
    ends = RANGES[name]
    return ends[0] <= number <= ends[1]


def all_within_range(given):
    return all([within_range(name, number) for name, number in given.items()])


def all_there(field, call, given):
    """Whether the call's things are there; why asks for what is gone."""
    known = field.gone if call == WHY else field.things
    return all([given[name] in known for name in ("n", "h") if name in given])


def is_of_wrong_kind(field, call, given):
    if call == JOIN:
        return field.things[given["n"]].kind not in (AURA, GEAR)
    if call == HURT:
        return field.things[given["n"]].kind not in (BEING, POST)
    return False


def refusal_due(field, call, given):
    """The refusal of this call, or 0; asked from -1 downwards, for the nearest to 0 is answered."""
    if not all_within_range(given):
        return OUT_OF_RANGE
    if not all_there(field, call, given):
        return NOT_THERE
    if call in CALLS_WITHOUT_RESULT and field.result != NO_RESULT:
        return RESULT_STANDS
    if is_of_wrong_kind(field, call, given):
        return WRONG_KIND
    if call == ADD and len(field.things) >= MOST_THINGS:
        return FIELD_FULL
    if call == JOIN and given["n"] == given["h"]:
        return ATTACHED_TO_ITSELF
    return 0
