"""The calls on one field, as one list of whole numbers in and one back."""

from restfield.acts import answer
from restfield.state import Field

CALL_NUMBERS = {
    0: ("life_0", "life_1"),
    1: ("p", "kind", "name", "qualities", "toughness", "wards", "standing"),
    2: ("n", "whose", "need", "ban", "others", "toughness", "qualities"),
    3: ("n", "toughness", "qualities"),
    4: ("n", "whose", "need", "ban", "kinds"),
    5: ("n", "h"),
    6: ("n",),
    7: ("n", "k", "poison"),
    8: ("n", "plus_delta", "minus_delta"),
    9: ("n", "delta"),
    10: ("n", "delta"),
    11: ("p", "delta"),
    12: ("p", "delta"),
    13: ("p", "v"),
    14: ("n",),
    15: ("n", "p"),
    16: (),
    17: (),
    18: (),
    19: (),
    20: ("n",),
    21: (),
    22: ("p",),
    23: (),
    24: ("n",),
    25: ("n",),
    26: ("n",),
}


def answers(calls):
    """For each call, in order: how many numbers are answered, then these numbers."""
    field = Field()
    told = []
    place = 0
    while place < len(calls):
        call = calls[place]
        names = CALL_NUMBERS[call]
        behind = place + 1 + len(names)
        given = dict(zip(names, calls[place + 1:behind], strict=True))
        numbers = answer(field, call, given)
        told.append(len(numbers))
        told.extend(numbers)
        place = behind
    return told
