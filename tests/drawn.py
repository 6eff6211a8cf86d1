"""Drawn fields and drawn lists of calls, the same for the same seed; and what they are with the sides exchanged."""

from tests.helper import (ADD, BEGIN, BUFF, COUNT, DROP, DRY, DUE, FIT, GIVE, GREATEST, HURT, JOIN, LEAST, LEND, LIFE,
                          LOOK, MARKS, MOST, REST, ROUND, SIDES, STAND, TAKEN_CALLS, VOID, WARD, WHY)

WRONG_NUMBERS = (LEAST, -MOST - 1, -MOST, -2, -1, 32, 64, 65535, 65536, MOST, MOST + 1, GREATEST)


def bits(source, meaning, plain):
    """Qualities: each bit that means something, and each of two that don't, with these chances."""
    chances = ((1, meaning), (2, meaning / 2), (4, meaning), (8, meaning), (16, plain), (32, plain))
    return sum(bit for bit, chance in chances if source.random() < chance)


def drawn_add(source):
    return (ADD, source.randrange(2), source.choice((0, 0, 0, 1, 2, 2, 3, 3, 4)), source.choice((0, 1, 1, 2)),
            bits(source, 0.15, 0.4), source.randint(-1, 4), source.choice((0, 0, 1, 2)), source.choice((0, 1, 2, 2)))


def drawn_number(source, call, place, things):
    """A number that is most often taken, and often of some effect."""
    least, greatest = TAKEN_CALLS[call][1][place]
    if (least, greatest) == (0, 65535):
        return bits(source, 0.12, 0.25)
    if (least, greatest) == (0, 31):
        return source.choice((31, 31, source.randrange(32)))
    if greatest < 31:
        return source.randint(least, greatest)
    if place == 0 or call == JOIN:
        return source.randint(1, things)
    return source.randint(max(least, -2), 3)


def drawn_call(source, call, things):
    if call == ADD:
        return drawn_add(source)
    if call == BEGIN:
        return (BEGIN, source.choice((0, 1, 2, 5, 5, 5)), source.choice((0, 1, 2, 5, 5, 5)))
    return (call, *[drawn_number(source, call, place, things) for place in range(len(TAKEN_CALLS[call][0]))])


def drawn_field(source, things=None):
    """Calls that build a field on which much may be due; none of them is a round."""
    things = things or source.choice((1, 2, 3, 5, 8, 12, 16, 16))
    lives = source.choice(((5, 5),) * 9 + ((5, 0), (0, 5), (0, 0)))
    changes = ((BUFF,) * 4 + (LEND,) * 4 + (FIT,) * 2 + (JOIN,) * 8 + (HURT,) * 6 + (COUNT,) * 3
               + (STAND, WARD, GIVE, LIFE, MARKS))
    calls = [(BEGIN, *lives)] + [drawn_add(source) for _ in range(things)]
    calls += [drawn_call(source, source.choice(changes), things) for _ in range(3 * things)]
    if source.random() < 0.1:
        calls.append((DRY, source.randrange(2), 1))
    return calls


def own_mark(n):
    """Own qualities by which a buff can be for thing n alone: these bits as need, those of other_marks as ban."""
    return (n - 1) << 4


def other_marks(n):
    return (63 ^ (n - 1)) << 4


def link(source, n, holder, sides):
    """What thing n is when it is added, and calls by which the holder holds it up."""
    side, wards = sides[n], source.choice((0, 0, 1))
    way = source.choice(("tough", "lasting", "aura", "aura", "counted"))
    if way == "aura":
        return (ADD, side, 2, 0, own_mark(n), 1, 0, 0), [(JOIN, n, holder)]
    whose = source.choice((0, 1 if sides[holder] == side else 2))
    reach = (BUFF, holder, whose, own_mark(n), other_marks(n), source.randrange(2))
    if way == "tough":
        return (ADD, side, 0, 0, own_mark(n), 0, wards, 0), [reach + (source.randint(1, 3), 0)]
    if way == "lasting":
        hurt = (HURT, n, 1, 1) if source.random() < 0.5 else (HURT, n, 3, 0)
        return (ADD, side, 0, 0, own_mark(n), 2, wards, 0), [reach + (0, 1), hurt]
    return (ADD, side, 0, 0, own_mark(n), 1, wards, 0), [reach + (2, 0), (COUNT, n, 2, 3), (HURT, n, 1, 0)]


def drawn_chain(source, things=None):
    """Calls that build a field on which each thing is held up by another one, and the first of these is dropped."""
    things = things or source.randint(2, 16)
    order = source.sample(range(1, things + 1), things)
    sides = [source.randrange(2) for _ in range(things + 1)]
    added = {order[0]: (ADD, sides[order[0]], 1, 0, own_mark(order[0]), 0, 0, 0)}
    holding = []
    for holder, n in zip(order, order[1:]):
        added[n], calls = link(source, n, holder, sides)
        holding += calls
    return [(BEGIN, 5, 5)] + [added[n] for n in range(1, things + 1)] + holding + [(DROP, order[0])]


def drawn_calls(source, how_many=120):
    """A field, and then calls of every kind, here and there with a number that is out of its range."""
    calls = drawn_field(source)
    things = sum(call[0] == ADD for call in calls)
    # Begin only now and then; what brings a result seldom, for it closes most of the other calls.
    numbers = [BEGIN, ROUND, REST, DRY, MARKS, LIFE] + list(range(1, 27)) * 3
    while len(calls) < how_many:
        call = list(drawn_call(source, source.choice(numbers), things + 1))
        if len(call) > 1 and source.random() < 0.08:
            call[source.randrange(1, len(call))] = source.choice(WRONG_NUMBERS)
        calls.append(tuple(call))
    return calls


def other_side(p):
    return 1 - p if p in (0, 1) else p


def exchanged(call):
    """The same call with the sides exchanged; whose is told from the thing's own side, so it stays."""
    if call[0] == BEGIN:
        return (BEGIN, call[2], call[1])
    if call[0] in (ADD, LIFE, MARKS, DRY, VOID):
        return (call[0], other_side(call[1]), *call[2:])
    if call[0] == GIVE:
        return (GIVE, call[1], other_side(call[2]))
    return call


def exchanged_result(result):
    return (0, 2, 1, 3)[result]


def exchanged_pairs(numbers):
    """Pairs behind their count; the sides that lose stand first, 0 before 1."""
    pairs = [(numbers[k], numbers[k + 1]) for k in range(1, len(numbers), 2)]
    losing = sorted((1, 1 - p) for kind, p in pairs if kind == 1)
    return [numbers[0]] + [number for pair in losing + pairs[len(losing):] for number in pair]


def exchanged_rounds(numbers):
    told = [exchanged_result(numbers[0]), numbers[1]]
    place = 2
    while place < len(numbers):
        behind = place + 1 + 2 * numbers[place]
        told += exchanged_pairs(numbers[place:behind])
        place = behind
    return told


def exchanged_answer(call, told):
    """What is answered when the sides are exchanged everywhere, told being the answer to this call without that."""
    if told[0] != 0:
        return told
    if call[0] in (LOOK, WHY):
        return [0, 1 - told[1], *told[2:]]
    if call[0] == SIDES:
        return [0, told[2], told[1], told[4], told[3], told[6], told[5], exchanged_result(told[7])]
    if call[0] in (DUE, ROUND):
        return [0] + exchanged_pairs(told[1:])
    if call[0] == REST:
        return [0] + exchanged_rounds(told[1:])
    return told
