"""What is due on a field: pairs of a kind from 1 to 9 and the number of a side or a thing."""

from restfield.reach import is_well_attached, now_of_all
from restfield.state import AURA, BEING, GEAR, NO_HOST, POST

SIDE_LOSES = 1
TOO_WEAK = 2
WRECKED = 3
USES_WARD = 4
POST_FALLEN = 5
NOT_THE_ONLY_ONE = 6
AURA_LOOSE = 7
GEAR_COMES_OFF = 8
COUNTERS_MEET = 9

LASTING = 1
KEEPS = 2
UNIQUE = 8

MARKS_TO_LOSE = 10
NO_NAME = 0


def is_kept(field, nows, p):
    return any([nows[n].qualities & KEEPS != 0 for n, thing in field.things.items() if thing.side == p])


def side_loses(field, nows, p):
    side = field.sides[p]
    if side.life > 0 and side.marks < MARKS_TO_LOSE and side.dry == 0:
        return False
    return not is_kept(field, nows, p)


def is_wrecked(being, now):
    """Whether a being is wrecked, its toughness now being above 0."""
    if now.qualities & LASTING != 0:
        return False
    return being.poisoned == 1 or being.damage >= now.toughness


def due_of_being(being, now):
    if now.toughness <= 0:
        return [TOO_WEAK]
    if not is_wrecked(being, now):
        return []
    if being.wards == 0:
        return [WRECKED]
    return [USES_WARD]


def has_unique_name(field, nows, n):
    return field.things[n].name != NO_NAME and nows[n].qualities & UNIQUE != 0


def has_namesake_before(field, nows, n):
    """Whether another unique thing of n's side and name has a lesser number."""
    thing = field.things[n]
    for other, namesake in field.things.items():
        if other < n and namesake.side == thing.side and namesake.name == thing.name:
            if has_unique_name(field, nows, other):
                return True
    return False


def due_of_thing(field, nows, n):
    """The kinds that are due of n, the least first."""
    thing = field.things[n]
    kinds = []
    if thing.kind == BEING:
        kinds.extend(due_of_being(thing, nows[n]))
    if thing.kind == POST and thing.standing == 0:
        kinds.append(POST_FALLEN)
    if has_unique_name(field, nows, n) and has_namesake_before(field, nows, n):
        kinds.append(NOT_THE_ONLY_ONE)
    if thing.kind == AURA and not is_well_attached(field, nows, n):
        kinds.append(AURA_LOOSE)
    if thing.kind == GEAR and thing.host != NO_HOST and not is_well_attached(field, nows, n):
        kinds.append(GEAR_COMES_OFF)
    if thing.plus > 0 and thing.minus > 0:
        kinds.append(COUNTERS_MEET)
    return kinds


def what_is_due(field):
    """All pairs: the sides that lose, then the things, the least number first, each with its least kind first."""
    nows = now_of_all(field)
    pairs = [(SIDE_LOSES, p) for p in (0, 1) if side_loses(field, nows, p)]
    for n in field.things:
        pairs.extend([(kind, n) for kind in due_of_thing(field, nows, n)])
    return pairs
