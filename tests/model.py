"""The document once more, as a slow model in another form: what answers gives back is compared with it."""

RANGES = {"n": (0, 10**9), "p": (0, 1), "w": (0, 2), "q": (0, 65535), "d": (-10**9, 10**9), "a": (0, 10**9),
          "b": (0, 1), "k": (0, 4), "m": (0, 31)}
# One letter for each number of a call, by its range.
SHAPES = ("aa", "pkaqdaa", "nwqqbdq", "ndq", "nwqqm", "nn", "n", "nab", "ndd", "nd", "nd", "pd", "pd", "pb", "n", "np",
          "", "", "", "", "n", "", "p", "", "n", "n", "n")
CLOSED_BY_A_RESULT = set(range(1, 17)) | {18, 19}


def cut(amount):
    return sorted((0, amount, 10**9))[1]


class Model:
    def __init__(self):
        self.anew(0, 0)

    def anew(self, first, second):
        self.life, self.marks, self.dry, self.result = [first, second], [0, 0], [0, 0], 0
        self.all = {}
        self.left = []

    def here(self):
        return [n for n in sorted(self.all) if self.all[n]["there"]]

    # What reaches whom.

    def fits(self, n, m, whose, need, ban):
        one, other = self.all[n], self.all[m]
        sides = {0: (0, 1), 1: (one["side"],), 2: (1 - one["side"],)}[whose]
        return other["side"] in sides and not need & ~other["own"] and not ban & other["own"]

    def reaches(self, n, m):
        whose, need, ban, others, _, _ = self.all[n]["buff"]
        return self.fits(n, m, whose, need, ban) and (m != n or not others)

    def group(self, n):
        return [m for m in self.here() if self.reaches(n, m)]

    def gifts(self, m):
        found = [self.all[n]["buff"][4:] for n in self.here() if self.reaches(n, m)]
        return found + [self.all[n]["loan"] for n in self.here() if self.all[n]["host"] == m]

    def qualities(self, m):
        bits = self.all[m]["own"]
        for _, more in self.gifts(m):
            bits |= more
        return bits

    def toughness(self, m):
        thing = self.all[m]
        return thing["tough"] + thing["plus"] - thing["minus"] + sum(more for more, _ in self.gifts(m))

    def has(self, m, bit):
        return bool(self.qualities(m) & bit)

    def hosts(self, n):
        whose, need, ban, kinds = self.all[n]["fit"]
        allowed = [kind for kind in range(5) if bin(kinds + 32)[::-1][kind] == "1"]
        return [m for m in self.here() if m != n and self.all[m]["kind"] in allowed
                and self.fits(n, m, whose, need, ban) and not self.has(m, 4)]

    # What is due.

    def loses(self, p):
        lost = self.life[p] <= 0 or self.marks[p] >= 10 or self.dry[p]
        return lost and not any(self.has(m, 2) for m in self.here() if self.all[m]["side"] == p)

    def is_due(self, kind, n):
        thing = self.all[n]
        being, now = thing["kind"] == 0, self.toughness(n)
        wrecked = being and now > 0 and not self.has(n, 1) and bool(thing["poisoned"] or thing["damage"] >= now)
        if kind == 2:
            return being and now <= 0
        if kind == 3:
            return wrecked and not thing["wards"]
        if kind == 4:
            return wrecked and thing["wards"] > 0
        if kind == 5:
            return thing["kind"] == 4 and not thing["standing"]
        if kind == 6:
            return thing["name"] != 0 and self.has(n, 8) and any(
                self.has(m, 8) for m in self.here()
                if m < n and (self.all[m]["side"], self.all[m]["name"]) == (thing["side"], thing["name"]))
        if kind == 7:
            return thing["kind"] == 2 and thing["host"] not in self.hosts(n)
        if kind == 8:
            return thing["kind"] == 3 and thing["host"] != 0 and thing["host"] not in self.hosts(n)
        return min(thing["plus"], thing["minus"]) > 0

    def due(self):
        return [(1, p) for p in (0, 1) if self.loses(p)] + [
            (kind, n) for n in self.here() for kind in range(2, 10) if self.is_due(kind, n)]

    # What happens.

    def go(self, n, reason):
        self.all[n].update(there=False, reason=reason)
        self.left.append(n)

    def act(self, kind, n, going):
        """One act of a round; what goes is gathered, for it goes in the order of the numbers."""
        if kind == 1:
            self.result = {(0, 0): 1, (0, 1): 2, (1, 1): 3, (2, 0): 3}[self.result, n]
            return
        thing = self.all[n]
        if kind == 4:
            thing.update(wards=thing["wards"] - 1, damage=0, poisoned=0)
        elif kind == 8:
            thing["host"] = 0
        elif kind == 9:
            fewer = min(thing["plus"], thing["minus"])
            thing.update(plus=thing["plus"] - fewer, minus=thing["minus"] - fewer)
        else:
            going[n] = min(kind, going.get(n, kind))

    def round(self, arrange=list):
        """One round, its acts done in the order to which arrange brings them."""
        pairs, going = self.due(), {}
        for kind, n in arrange(pairs):
            self.act(kind, n, going)
        for n in sorted(going):
            self.go(n, going[n])
        return pairs

    def rest(self):
        rounds = []
        while self.result == 0 and self.due():
            rounds.append(self.round())
        return [self.result, len(rounds)] + [number for pairs in rounds for number in told(pairs)]

    # The calls.

    def refusals(self, call, numbers):
        """All refusals that are due."""
        shape = SHAPES[call]
        if any(not RANGES[sort][0] <= number <= RANGES[sort][1] for sort, number in zip(shape, numbers, strict=True)):
            yield -1
        things = [number for sort, number in zip(shape, numbers) if sort == "n"]
        asked = [n for n in self.all if not self.all[n]["there"]] if call == 26 else self.here()
        if any(n not in asked for n in things):
            yield -2
        if self.result != 0 and call in CLOSED_BY_A_RESULT:
            yield -3
        for_kinds = {5: (2, 3), 7: (0, 4)}.get(call, range(5))
        if things and things[0] in self.all and self.all[things[0]]["kind"] not in for_kinds:
            yield -4
        if call == 1 and len(self.here()) == 64:
            yield -5
        if call == 5 and numbers[0] == numbers[1]:
            yield -6

    def answer(self, call, *numbers):
        refused = list(self.refusals(call, numbers))
        if refused:
            return [max(refused)]
        return [0] + getattr(self, "do_%d" % call)(*numbers)

    def change(self, n, part, delta):
        self.all[n][part] = cut(self.all[n][part] + delta)
        return self.all[n][part]

    def do_0(self, first, second):
        self.anew(first, second)
        return []

    def do_1(self, p, kind, name, own, tough, wards, standing):
        n = len(self.all) + 1
        self.all[n] = dict(side=p, kind=kind, name=name, own=own, tough=tough, wards=wards, standing=standing, damage=0,
                           plus=0, minus=0, poisoned=0, host=0, buff=(0,) * 6, loan=(0, 0), fit=(0, 0, 0, 31),
                           there=True)
        return [n]

    def do_2(self, n, *buff):
        self.all[n]["buff"] = buff
        return []

    def do_3(self, n, *loan):
        self.all[n]["loan"] = loan
        return []

    def do_4(self, n, *fit):
        self.all[n]["fit"] = fit
        return []

    def do_5(self, n, h):
        self.all[n]["host"] = h
        return []

    def do_6(self, n):
        host, self.all[n]["host"] = self.all[n]["host"], 0
        return [host]

    def do_7(self, n, k, poison):
        if self.all[n]["kind"] == 4:
            return [self.change(n, "standing", -k)]
        self.all[n]["poisoned"] |= int(bool(k and poison))
        return [self.change(n, "damage", k)]

    def do_8(self, n, plus, minus):
        return [self.change(n, "plus", plus), self.change(n, "minus", minus)]

    def do_9(self, n, delta):
        return [self.change(n, "standing", delta)]

    def do_10(self, n, delta):
        return [self.change(n, "wards", delta)]

    def do_11(self, p, delta):
        self.life[p] += delta
        return [self.life[p]]

    def do_12(self, p, delta):
        self.marks[p] = cut(self.marks[p] + delta)
        return [self.marks[p]]

    def do_13(self, p, v):
        self.dry[p] = v
        return []

    def do_14(self, n):
        self.go(n, 0)
        return []

    def do_15(self, n, p):
        self.all[n]["side"] = p
        return []

    def do_16(self):
        damaged = [n for n in self.here() if self.all[n]["damage"]]
        for n in self.here():
            self.all[n].update(damage=0, poisoned=0)
        return [len(damaged)]

    def do_17(self):
        return told(self.due())

    def do_18(self):
        return told(self.round())

    def do_19(self):
        return self.rest()

    def do_20(self, n):
        thing = self.all[n]
        return ([thing[part] for part in ("side", "kind", "name", "own")]
                + [self.qualities(n), thing["tough"], self.toughness(n)]
                + [thing[part] for part in ("damage", "poisoned", "plus", "minus", "wards", "standing", "host")])

    def do_21(self):
        return self.here()

    def do_22(self, p):
        return [n for n in self.left if self.all[n]["side"] == p]

    def do_23(self):
        return self.life + self.marks + self.dry + [self.result]

    def do_24(self, n):
        return self.group(n)

    def do_25(self, n):
        return self.hosts(n)

    def do_26(self, n):
        return [self.all[n]["side"], self.all[n]["reason"]]


def told(pairs):
    return [len(pairs)] + [number for pair in pairs for number in pair]
