"""What a standstill looks up: kinds and things by numbers, sayings and known kinds by the numbers of their parts."""

from kinwords.kinds import FORMS
from kinwords.words import show_kind


def note(table, key, entry):
    """Put an entry behind the others that a table has by this key."""
    table.setdefault(key, []).append(entry)


class Lore:
    """The sayings at hand and the known kinds.

    Kinds may lie deeper than a key of a dict may, so each kind and each thing gets a number when it comes first.
    """

    def __init__(self):
        self.parts = []
        self.shapes = []
        self.numbers = {}
        self.known = {}
        self.everys = {}
        self.nos = {}
        self.withins = {}
        self.makes_first = {}
        self.makes_second = {}
        self.boths = {}
        self.somes = {}
        self.fillers = {}
        self.wholes = {}
        self.anything = self.number_of("anything")
        self.nothing = self.number_of("nothing")

    def number_of(self, x):
        """The number of a kind or a thing."""
        # Things begin with a great letter, so no kind is written like one.
        text = show_kind(x)
        if text not in self.numbers:
            shape = self.shape_of(x)
            self.numbers[text] = len(self.parts)
            self.parts.append(x)
            self.shapes.append(shape)
        return self.numbers[text]

    def shape_of(self, x):
        """What a both or a some is made of, its kinds by their numbers; None for all that is one word."""
        if isinstance(x, str):
            return None
        if x[0] == "both":
            return ("both", self.number_of(x[1]), self.number_of(x[2]))
        return ("some", x[1], self.number_of(x[2]))

    def know(self, kind):
        """Note that this number's kind is known, and with it all that stand within it."""
        if kind in self.known:
            return
        self.known[kind] = True
        if self.shapes[kind] is None:
            return
        form, first, second = self.shapes[kind]
        if form == "both":
            self.know(first)
            note(self.boths, first, (second, kind, True))
            note(self.boths, second, (first, kind, False))
        else:
            note(self.somes, second, (first, kind))
            self.fillers[first] = self.fillers.get(first, 0) | 1 << second
            self.wholes[(first, second)] = kind
        self.know(second)

    def learn(self, number, saying):
        """Note a saying at hand, and that its kinds are known."""
        for sort, part in zip(FORMS[saying[0]], saying[1:]):
            if sort == "kind":
                self.know(self.number_of(part))
        if saying[0] == "every":
            note(self.everys, self.number_of(saying[1]), (self.number_of(saying[2]), number))
        elif saying[0] == "no":
            first, second = self.number_of(saying[1]), self.number_of(saying[2])
            note(self.nos, first, (second, number, True))
            note(self.nos, second, (first, number, False))
        elif saying[0] == "within":
            note(self.withins, saying[1], (saying[2], number))
        elif saying[0] == "makes":
            note(self.makes_first, saying[1], (saying[2], saying[3], number))
            note(self.makes_second, saying[2], (saying[1], saying[3], number))


def lore_of(pairs, further):
    """The lore of sayings at hand and further known kinds."""
    lore = Lore()
    for number, saying in pairs:
        lore.learn(number, saying)
    for kind in further:
        lore.know(lore.number_of(kind))
    return lore
