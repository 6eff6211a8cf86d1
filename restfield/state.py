"""What there is on a field: the sides, and the things with all that they have."""

BEING = 0
AURA = 2
GEAR = 3
POST = 4

NO_HOST = 0
NO_RESULT = 0


class Buff:
    """What a thing gives to each thing that whose, need and ban fit."""

    def __init__(self, whose, need, ban, others, toughness, qualities):
        self.whose = whose
        self.need = need
        self.ban = ban
        self.others = others
        self.toughness = toughness
        self.qualities = qualities


class Loan:
    """What a thing gives to its host."""

    def __init__(self, toughness, qualities):
        self.toughness = toughness
        self.qualities = qualities


class Fit:
    """What a thing may be attached to."""

    def __init__(self, whose, need, ban, kinds):
        self.whose = whose
        self.need = need
        self.ban = ban
        self.kinds = kinds


class Thing:
    """A thing; its qualities and toughness are its own ones, not those it has now."""

    def __init__(self, side, kind, name, qualities, toughness, wards, standing):
        self.side = side
        self.kind = kind
        self.name = name
        self.qualities = qualities
        self.toughness = toughness
        self.wards = wards
        self.standing = standing
        self.damage = 0
        self.poisoned = 0
        self.plus = 0
        self.minus = 0
        self.host = NO_HOST
        self.buff = Buff(0, 0, 0, 0, 0, 0)
        self.loan = Loan(0, 0)
        self.fit = Fit(0, 0, 0, 31)


class Gone:
    """What is still known of a thing that went."""

    def __init__(self, side, reason):
        self.side = side
        self.reason = reason


class Side:
    """One of the two sides."""

    def __init__(self, life):
        self.life = life
        self.marks = 0
        self.dry = 0


class Field:
    """The two sides, the things that are there and those that are gone, by their numbers.

    A dict keeps the order in which its keys came: the things there stand with the least number first,
    those gone in the order in which they went.
    """

    def __init__(self):
        self.begin_anew(0, 0)

    def begin_anew(self, life_0, life_1):
        self.sides = [Side(life_0), Side(life_1)]
        self.things = {}
        self.gone = {}
        # Kept apart from the things there, for no number is given again when a thing is gone.
        self.last_number = 0
        self.result = NO_RESULT

    def let_go(self, n, reason):
        thing = self.things.pop(n)
        self.gone[n] = Gone(thing.side, reason)
