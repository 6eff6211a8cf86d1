"""Whom buffs, loans and fits reach, and what a thing has now."""

OWN_SIDE = 1
OTHER_SIDE = 2

SHUNS = 4


class Now:
    """A thing's qualities and toughness with all that reaches it."""

    def __init__(self, qualities, toughness):
        self.qualities = qualities
        self.toughness = toughness


def whose_fits(whose, side, other_side):
    if whose == OWN_SIDE:
        return other_side == side
    if whose == OTHER_SIDE:
        return other_side != side
    return True


def rule_fits(rule, side, other):
    """Whether whose, need and ban, of a buff or a fit of a thing of this side, fit the other thing.

    Need and ban ask the other's own qualities: so who is reached never hangs on who else is reached.
    """
    return (
        whose_fits(rule.whose, side, other.side)
        and other.qualities & rule.need == rule.need
        and other.qualities & rule.ban == 0
    )


def buff_reaches(field, n, other):
    thing = field.things[n]
    if other == n and thing.buff.others == 1:
        return False
    return rule_fits(thing.buff, thing.side, field.things[other])


def group_of(field, n):
    """The numbers of the things that n's buff reaches, the least first."""
    return [other for other in field.things if buff_reaches(field, n, other)]


def gifts_reaching(field, n):
    """The buffs and the loans of things there that reach n."""
    gifts = []
    for giver, thing in field.things.items():
        if buff_reaches(field, giver, n):
            gifts.append(thing.buff)
        if thing.host == n:
            gifts.append(thing.loan)
    return gifts


def now_of(field, n):
    thing = field.things[n]
    qualities = thing.qualities
    toughness = thing.toughness + thing.plus - thing.minus
    for gift in gifts_reaching(field, n):
        qualities = qualities | gift.qualities
        toughness = toughness + gift.toughness
    return Now(qualities, toughness)


def now_of_all(field):
    """What each thing there has now, by its number."""
    nows = {}
    for n in field.things:
        nows[n] = now_of(field, n)
    return nows


def may_be_attached(field, nows, n, other):
    """Whether n's fit lets it be attached to the other one, which is there."""
    thing = field.things[n]
    host = field.things[other]
    return (
        (thing.fit.kinds >> host.kind) & 1 == 1
        and rule_fits(thing.fit, thing.side, host)
        and nows[other].qualities & SHUNS == 0
    )


def hosts_of(field, n):
    """The numbers of the things to which n may be attached, the least first."""
    nows = now_of_all(field)
    return [other for other in field.things if other != n and may_be_attached(field, nows, n, other)]


def is_well_attached(field, nows, n):
    """Whether n's host is something there to which n may be attached."""
    host = field.things[n].host
    return host in field.things and may_be_attached(field, nows, n, host)
