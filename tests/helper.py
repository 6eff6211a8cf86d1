"""What the tests share: lists of calls, their answers call by call, and a look at a whole field."""

from restfield.acts import answer
from restfield.field import CALL_NUMBERS, answers
from restfield.state import Field

LEAST = -1000000000000000000
GREATEST = 1000000000000000000
MOST = 1000000000

BEGIN, ADD, BUFF, LEND, FIT, JOIN, PART = 0, 1, 2, 3, 4, 5, 6
HURT, COUNT, STAND, WARD, LIFE, MARKS, DRY = 7, 8, 9, 10, 11, 12, 13

BEING, RELIC, AURA, GEAR, POST = 0, 1, 2, 3, 4

# Two beings, a relic, an aura, a gear and a post: the things 1 to 6.
SIX_THINGS = (
    (ADD, 0, BEING, 0, 0, 2, 0, 0),
    (ADD, 1, BEING, 7, 8, 3, 1, 0),
    (ADD, 0, RELIC, 0, 0, 0, 0, 0),
    (ADD, 0, AURA, 0, 0, 0, 0, 0),
    (ADD, 1, GEAR, 0, 0, 0, 0, 0),
    (ADD, 1, POST, 0, 0, 0, 0, 5),
)

# For each call its numbers: one taken call on the six things, and the range of each number.
DELTA = (-MOST, MOST)
BITS = (0, 65535)
TAKEN_CALLS = {
    BEGIN: ((20, 30), ((0, MOST), (0, MOST))),
    ADD: ((1, 0, 5, 6, 7, 8, 9), ((0, 1), (0, 4), (0, MOST), BITS, DELTA, (0, MOST), (0, MOST))),
    BUFF: ((1, 1, 2, 3, 1, 4, 5), ((0, MOST), (0, 2), BITS, BITS, (0, 1), DELTA, BITS)),
    LEND: ((4, 2, 3), ((0, MOST), DELTA, BITS)),
    FIT: ((4, 1, 2, 3, 4), ((0, MOST), (0, 2), BITS, BITS, (0, 31))),
    JOIN: ((4, 1), ((0, MOST), (0, MOST))),
    PART: ((4,), ((0, MOST),)),
    HURT: ((1, 2, 1), ((0, MOST), (0, MOST), (0, 1))),
    COUNT: ((3, 2, 1), ((0, MOST), DELTA, DELTA)),
    STAND: ((6, 2), ((0, MOST), DELTA)),
    WARD: ((2, 2), ((0, MOST), DELTA)),
    LIFE: ((0, -3), ((0, 1), DELTA)),
    MARKS: ((1, 4), ((0, 1), DELTA)),
    DRY: ((1, 1), ((0, 1), (0, 1))),
}

# Where a call's number is a thing's number: a number in its range need not be one that's there.
THING_PLACES = {BUFF: (0,), LEND: (0,), FIT: (0,), JOIN: (0, 1), PART: (0,), HURT: (0,), COUNT: (0,), STAND: (0,),
                WARD: (0,)}


def flat(calls):
    return [number for call in calls for number in call]


def split(numbers):
    """The list that answers gives back, taken apart call by call."""
    parts = []
    place = 0
    while place < len(numbers):
        behind = place + 1 + numbers[place]
        parts.append(numbers[place + 1:behind])
        place = behind
    if place != len(numbers):
        raise ValueError("the last answer is shorter than its count tells")
    return parts


def ask(*calls):
    """The answers to these calls, one list for each."""
    return split(answers(flat(calls)))


def last(*calls):
    """The answer to the last of these calls."""
    return ask(*calls)[-1]


def tell(field, call):
    """One call on a field that is kept, so that the field can be looked at."""
    return answer(field, call[0], dict(zip(CALL_NUMBERS[call[0]], call[1:], strict=True)))


def field_after(*calls):
    field = Field()
    for call in calls:
        tell(field, call)
    return field


def picture(value):
    """All that an object holds, as plain values that can be compared."""
    if isinstance(value, list):
        return [picture(each) for each in value]
    if isinstance(value, dict):
        return [(key, picture(each)) for key, each in value.items()]
    if hasattr(value, "__dict__"):
        return {key: picture(each) for key, each in vars(value).items()}
    return value
