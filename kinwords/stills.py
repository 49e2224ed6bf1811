"""The standstill: all facts about its stand-ins that the rules give."""

from kinwords.lore import lore_of
from kinwords.rules import stands_for_thing, things_named


def bits_of(mask):
    """The places of the bits that stand in a whole number, rising."""
    found = []
    while mask:
        lowest = mask & -mask
        found.append(lowest.bit_length() - 1)
        mask ^= lowest
    return found


def in_order(at, other, is_first):
    """Two places as froms, in the order in which the rule names them."""
    return [at, other] if is_first else [other, at]


class Still:
    """Steps that grow until no rule gives a further fact.

    A fact is a pair (x, kind) or a triple (x, tie, y) here, by the numbers of the lore. Who is of a kind and who
    has a tie to whom is kept as bits too, so that facts that are there already cost nothing where two are joined.
    """

    def __init__(self, lore):
        self.lore = lore
        self.steps = []
        self.facts = []
        self.places = {}
        self.stand_ins = {}
        self.kinds_of = {}
        self.those_of = {}
        self.fillers_of = {}
        self.ends = {}
        self.starts = {}
        self.ties = {}

    def keep_is(self, x, kind, step):
        """Keep the step that tells x to be of a kind."""
        fact = (x, kind)
        self.places[fact] = len(self.steps)
        self.facts.append(fact)
        self.steps.append(step)
        self.kinds_of[x] = self.kinds_of.get(x, 0) | 1 << kind
        self.those_of[kind] = self.those_of.get(kind, 0) | 1 << x
        shape = self.lore.shapes[kind]
        if shape is not None and shape[0] == "some":
            key = (x, shape[1])
            self.fillers_of[key] = self.fillers_of.get(key, 0) | 1 << shape[2]

    def keep_has(self, x, tie, y, step):
        """Keep the step that tells x to have a tie to y."""
        fact = (x, tie, y)
        self.places[fact] = len(self.steps)
        self.facts.append(fact)
        self.steps.append(step)
        self.ends[(x, tie)] = self.ends.get((x, tie), 0) | 1 << y
        self.starts[(y, tie)] = self.starts.get((y, tie), 0) | 1 << x
        self.ties[tie] = True

    def tell_is(self, x, kind, rule, froms, number):
        """Tell x to be of a kind, where that is not told yet."""
        if (x, kind) not in self.places:
            parts = self.lore.parts
            self.keep_is(x, kind, (("is", parts[x], parts[kind]), rule, froms, number))

    def tell_has(self, x, tie, y, rule, froms, number):
        """Tell x to have a tie to y, where that is not told yet."""
        if (x, tie, y) not in self.places:
            parts = self.lore.parts
            self.keep_has(x, tie, y, (("has", parts[x], tie, parts[y]), rule, froms, number))
            self.let_stand(y)

    def let_stand(self, x):
        """Let x be a stand-in."""
        if x in self.stand_ins:
            return
        self.stand_ins[x] = True
        if not stands_for_thing(self.lore.parts[x]):
            self.tell_is(x, x, "self", [], None)
        self.tell_is(x, self.lore.anything, "all", [], None)

    def take_over(self, steps):
        """Keep steps that are handed in, and let all that they speak of be stand-ins."""
        for fact, rule, froms, number in steps:
            step = (fact, rule, list(froms), number)
            x = self.lore.number_of(fact[1])
            if fact[0] == "is":
                self.keep_is(x, self.lore.number_of(fact[2]), step)
            else:
                self.keep_has(x, fact[2], self.lore.number_of(fact[3]), step)
        for fact in list(self.facts):
            self.let_stand(fact[0])
            if len(fact) == 3:
                self.let_stand(fact[2])

    def begin(self, pairs, starts):
        """Let the starts and the things be stand-ins, and tell what sayings tell of things."""
        lore = self.lore
        for x in list(starts) + list(things_named(pairs)):
            self.let_stand(lore.number_of(x))
        for number, saying in pairs:
            if saying[0] == "thing":
                self.tell_is(lore.number_of(saying[1]), lore.number_of(saying[2]), "thing", [], number)
            elif saying[0] == "tied":
                self.tell_has(lore.number_of(saying[1]), saying[2], lore.number_of(saying[3]), "tied", [], number)

    def go_on(self):
        """Tell what the rules give until there is nothing new."""
        at = 0
        while at < len(self.facts):
            if len(self.facts[at]) == 2:
                x, kind = self.facts[at]
                self.from_kind(at, x, kind)
                self.from_pairs(at, x, kind)
                self.from_end(at, x, kind)
            else:
                x, tie, y = self.facts[at]
                self.from_tie(at, x, tie, y)
                self.from_chains(at, x, tie, y)
            at += 1

    def from_kind(self, at, x, kind):
        """What comes of x being of a kind by itself."""
        for other, number in self.lore.everys.get(kind, []):
            self.tell_is(x, other, "every", [at], number)
        if self.lore.shapes[kind] is None:
            return
        form, first, second = self.lore.shapes[kind]
        if form == "both":
            self.tell_is(x, first, "first", [at], None)
            self.tell_is(x, second, "second", [at], None)
        else:
            self.tell_has(x, first, second, "some", [at], None)

    def from_pairs(self, at, x, kind):
        """What comes of x being of a kind and of another."""
        for other, number, is_first in self.lore.nos.get(kind, []):
            if (x, other) in self.places:
                froms = in_order(at, self.places[(x, other)], is_first)
                self.tell_is(x, self.lore.nothing, "no", froms, number)
        for other, whole, is_first in self.lore.boths.get(kind, []):
            if (x, other) in self.places:
                self.tell_is(x, whole, "both", in_order(at, self.places[(x, other)], is_first), None)

    def from_end(self, at, y, kind):
        """What comes of y being of a kind for those who have a tie to y."""
        for tie, whole in self.lore.somes.get(kind, []):
            for x in bits_of(self.starts.get((y, tie), 0) & ~self.those_of.get(whole, 0)):
                self.tell_is(x, whole, "tie", [self.places[(x, tie, y)], at], None)
        if kind != self.lore.nothing:
            return
        for tie in list(self.ties):
            for x in bits_of(self.starts.get((y, tie), 0) & ~self.those_of[kind]):
                self.tell_is(x, kind, "none", [self.places[(x, tie, y)], at], None)

    def from_tie(self, at, x, tie, y):
        """What comes of x having a tie to y by itself, and with what y is."""
        for wider, number in self.lore.withins.get(tie, []):
            self.tell_has(x, wider, y, "within", [at], number)
        wanted = self.lore.fillers.get(tie, 0) & ~self.fillers_of.get((x, tie), 0)
        for kind in bits_of(self.kinds_of[y] & wanted):
            self.tell_is(x, self.lore.wholes[(tie, kind)], "tie", [at, self.places[(y, kind)]], None)
        if (y, self.lore.nothing) in self.places:
            self.tell_is(x, self.lore.nothing, "none", [at, self.places[(y, self.lore.nothing)]], None)

    def from_chains(self, at, x, tie, y):
        """What comes of x having a tie to y with the ties behind it and ahead of it."""
        for onward, made, number in self.lore.makes_first.get(tie, []):
            for z in bits_of(self.ends.get((y, onward), 0) & ~self.ends.get((x, made), 0)):
                self.tell_has(x, made, z, "makes", [at, self.places[(y, onward, z)]], number)
        for before, made, number in self.lore.makes_second.get(tie, []):
            for w in bits_of(self.starts.get((x, before), 0) & ~self.starts.get((y, made), 0)):
                self.tell_has(w, made, y, "makes", [self.places[(w, before, x)], at], number)


def still(pairs, starts, further, steps=None):
    """The standstill of sayings at hand, kinds to start with and further known kinds, gone on from steps."""
    found = Still(lore_of(pairs, further))
    if steps is not None:
        found.take_over(steps)
    found.begin(pairs, starts)
    found.go_on()
    return found.steps
