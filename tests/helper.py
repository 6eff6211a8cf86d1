"""What the tests share: lists of calls, their answers call by call, and a view of all that can be asked of a field."""

from restfield.field import answers

LEAST = -1000000000000000000
GREATEST = 1000000000000000000
MOST = 1000000000

BEGIN, ADD, BUFF, LEND, FIT, JOIN, PART = 0, 1, 2, 3, 4, 5, 6
HURT, COUNT, STAND, WARD, LIFE, MARKS, DRY = 7, 8, 9, 10, 11, 12, 13
DROP, GIVE, MEND, DUE, ROUND, REST, LOOK = 14, 15, 16, 17, 18, 19, 20
THINGS, VOID, SIDES, GROUP, HOSTS, WHY = 21, 22, 23, 24, 25, 26

BEING, RELIC, AURA, GEAR, POST = 0, 1, 2, 3, 4
LASTING, KEEPS, SHUNS, UNIQUE = 1, 2, 4, 8

# Two beings, a relic, an aura, a gear and a post: the things 1 to 6.
SIX_THINGS = (
    (ADD, 0, BEING, 0, 0, 2, 0, 0),
    (ADD, 1, BEING, 7, 8, 3, 1, 0),
    (ADD, 0, RELIC, 0, 0, 0, 0, 0),
    (ADD, 0, AURA, 0, 0, 0, 0, 0),
    (ADD, 1, GEAR, 0, 0, 0, 0, 0),
    (ADD, 1, POST, 0, 0, 0, 0, 5),
)

# The same with a seventh thing, which is gone.
SIX_AND_ONE_GONE = SIX_THINGS + ((ADD, 1, RELIC, 0, 0, 0, 0, 0), (DROP, 7))

# A field on which every thing and side has something of its own to lose, and of whose things nothing is due.
USED_FIELD = ((BEGIN, 20, 30),) + SIX_AND_ONE_GONE + (
    (BUFF, 1, 1, 0, 16, 1, 1, 32), (LEND, 4, 2, 65), (LEND, 5, 1, 128), (FIT, 4, 1, 0, 16, 3), (FIT, 5, 1, 8, 16, 1),
    (JOIN, 4, 1), (JOIN, 5, 2), (HURT, 1, 2, 1), (HURT, 2, 1, 0), (HURT, 6, 1, 0), (COUNT, 3, 2, 0), (COUNT, 6, 0, 1),
    (STAND, 6, 2), (WARD, 2, 2), (LIFE, 0, -3), (MARKS, 0, 2), (MARKS, 1, 4))

# The same field once a side has lost, or both have.
USED_FIELD_WITH_RESULT = {
    1: USED_FIELD + ((DRY, 0, 1), (ROUND,)),
    2: USED_FIELD + ((DRY, 1, 1), (ROUND,)),
    3: USED_FIELD + ((DRY, 0, 1), (DRY, 1, 1), (ROUND,)),
}

# For each call: its numbers where it is taken after SIX_AND_ONE_GONE or USED_FIELD, and the range of each number.
DELTA = (-MOST, MOST)
BITS = (0, 65535)
TAKEN_CALLS = {
    BEGIN: ((20, 30), ((0, MOST), (0, MOST))),
    ADD: ((1, 0, 5, 6, 7, 8, 9), ((0, 1), (0, 4), (0, MOST), BITS, DELTA, (0, MOST), (0, MOST))),
    BUFF: ((1, 1, 2, 3, 1, 4, 5), ((0, MOST), (0, 2), BITS, BITS, (0, 1), DELTA, BITS)),
    LEND: ((4, 2, 3), ((0, MOST), DELTA, BITS)),
    FIT: ((4, 1, 2, 3, 4), ((0, MOST), (0, 2), BITS, BITS, (0, 31))),
    JOIN: ((4, 3), ((0, MOST), (0, MOST))),
    PART: ((4,), ((0, MOST),)),
    HURT: ((1, 2, 1), ((0, MOST), (0, MOST), (0, 1))),
    COUNT: ((3, 2, 1), ((0, MOST), DELTA, DELTA)),
    STAND: ((6, 2), ((0, MOST), DELTA)),
    WARD: ((2, 2), ((0, MOST), DELTA)),
    LIFE: ((0, -3), ((0, 1), DELTA)),
    MARKS: ((1, 4), ((0, 1), DELTA)),
    DRY: ((1, 1), ((0, 1), (0, 1))),
    DROP: ((3,), ((0, MOST),)),
    GIVE: ((1, 1), ((0, MOST), (0, 1))),
    MEND: ((), ()),
    DUE: ((), ()),
    ROUND: ((), ()),
    REST: ((), ()),
    LOOK: ((1,), ((0, MOST),)),
    THINGS: ((), ()),
    VOID: ((1,), ((0, 1),)),
    SIDES: ((), ()),
    GROUP: ((1,), ((0, MOST),)),
    HOSTS: ((4,), ((0, MOST),)),
    WHY: ((7,), ((0, MOST),)),
}

# Where a call's number is the number of a thing that must be there.
THING_PLACES = {BUFF: (0,), LEND: (0,), FIT: (0,), JOIN: (0, 1), PART: (0,), HURT: (0,), COUNT: (0,), STAND: (0,),
                WARD: (0,), DROP: (0,), GIVE: (0,), LOOK: (0,), GROUP: (0,), HOSTS: (0,)}

# What isn't refused when there is a result.
TAKEN_WITH_A_RESULT = (BEGIN, DUE, LOOK, THINGS, VOID, SIDES, GROUP, HOSTS, WHY)

# What look tells, in its order.
LOOK_NAMES = ("side", "kind", "name", "qualities", "qualities now", "toughness", "toughness now", "damage", "poisoned",
              "plus", "minus", "wards", "standing", "host")


# Both sides live, so nothing is due of them.
ALIVE = (BEGIN, 5, 5)


def being(toughness=2, wards=0, own=0, p=0, name=0):
    return (ADD, p, BEING, name, own, toughness, wards, 0)


def plain(kind, own=0, p=0, name=0, standing=1):
    """A thing without toughness and wards: of most kinds that lets it stand."""
    return (ADD, p, kind, name, own, 0, 0, standing)


def flat(calls):
    return [number for call in calls for number in call]


def split(numbers):
    """The list that answers gives back, taken apart call by call."""
    parts = []
    place = 0
    while place < len(numbers):
        behind = place + 1 + numbers[place]
        parts.append(numbers[place + 1:behind])
        place = behind
    if place != len(numbers):
        raise ValueError("the last answer is shorter than its count tells")
    return parts


def ask(*calls):
    """The answers to these calls, one list for each."""
    if not 1 <= len(calls) <= 400:
        raise ValueError("a list has 1 to 400 calls")
    told = split(answers(flat(calls)))
    if len(told) != len(calls):
        raise ValueError("there is one answer for each call")
    return told


def last(*calls):
    """The answer to the last of these calls."""
    return ask(*calls)[-1]


def seen(n, *calls):
    """What look tells of thing n after these calls, by the names of what it tells."""
    told = last(*calls, (LOOK, n))
    if told[0] != 0:
        raise ValueError(f"look is refused with {told}")
    return dict(zip(LOOK_NAMES, told[1:], strict=True))


def pairs_of(numbers):
    """Pairs that stand behind their count, and nothing behind them."""
    if len(numbers) != 1 + 2 * numbers[0]:
        raise ValueError("there are not as many pairs as their count tells")
    return [tuple(numbers[place:place + 2]) for place in range(1, len(numbers), 2)]


def due(*calls):
    """The pairs that are due after these calls."""
    told = last(*calls, (DUE,))
    if told[0] != 0:
        raise ValueError(f"due is refused with {told}")
    return pairs_of(told[1:])


def rounds_of(numbers):
    """What rest answers, as the result and the pairs of each round."""
    if numbers[0] != 0:
        raise ValueError(f"rest is refused with {numbers}")
    rounds = []
    place = 3
    for _ in range(numbers[2]):
        behind = place + 1 + 2 * numbers[place]
        rounds.append(pairs_of(numbers[place:behind]))
        place = behind
    if place != len(numbers):
        raise ValueError("there are not as many rounds as their count tells")
    return numbers[1], rounds


def rest(*calls):
    """The result and the pairs of each round of a rest after these calls."""
    return rounds_of(last(*calls, (REST,)))


def view_calls(numbers):
    """Calls that ask all that can be asked of a field with things up to this number."""
    calls = [(SIDES,), (THINGS,), (VOID, 0), (VOID, 1), (DUE,)]
    for n in range(1, numbers + 1):
        calls.extend([(LOOK, n), (GROUP, n), (HOSTS, n), (WHY, n)])
    return calls


def view(numbers, *calls):
    """All that can be asked after these calls."""
    return ask(*calls, *view_calls(numbers))[len(calls):]
