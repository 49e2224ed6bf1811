"""The least sets of sayings from which a question follows, and the cuts behind which it does no longer."""

from kinwords.answers import follows
from kinwords.errors import TooMany
from kinwords.stills import bits_of

MOST_SAYINGS = 12


class Choices:
    """What is found of the choices of sayings at hand: from which of them a question follows.

    A choice is a whole number whose bits tell the places of its sayings. With each choice that is enough all that
    have more are, and with each that is short all that have fewer; so few have to be tried.
    """

    def __init__(self, pairs, question):
        self.pairs = list(pairs)
        self.question = question
        self.whole = (1 << len(pairs)) - 1
        self.tried = {}
        self.enough = []
        self.short = []

    def is_enough(self, choice):
        """Whether the question follows from a choice, where that is found already; else None."""
        if any([one & choice == one for one in self.enough]):
            return True
        if any([one & choice == choice for one in self.short]):
            return False
        return None

    def lets_follow(self, choice):
        """Whether the question follows from a choice."""
        found = self.is_enough(choice)
        if found is not None:
            return found
        if choice not in self.tried:
            chosen = [self.pairs[at] for at in bits_of(choice)]
            self.tried[choice] = follows(chosen, self.question)
        return self.tried[choice]

    def lessened(self, choice):
        """A least choice within one that is enough."""
        left = choice
        for at in bits_of(choice):
            fewer = left & ~(1 << at)
            if self.lets_follow(fewer):
                left = fewer
        return left

    def search(self, wanted, most):
        """Find least choices that are enough and greatest ones that are short, until the wanted list has too many."""
        # The greater ones come first, so one that is short lies within no other such one.
        for choice in sorted(range(self.whole + 1), key=lambda one: -len(bits_of(one))):
            if len(wanted) > most:
                return
            if self.is_enough(choice) is not None:
                continue
            if self.lets_follow(choice):
                self.enough.append(self.lessened(choice))
            else:
                self.short.append(choice)

    def numbers_in(self, choice):
        """The numbers of the sayings of a choice, rising."""
        return [self.pairs[at][0] for at in bits_of(choice)]


def choices_of(pairs, question):
    """Nothing found yet of the choices of sayings; TooMany where there are too many of these."""
    if len(pairs) > MOST_SAYINGS:
        raise TooMany(f"{len(pairs)} sayings, and no more than {MOST_SAYINGS} may be chosen of")
    return Choices(pairs, question)


def told_of(lists, most):
    """At most so many of these lists, in their order, and whether these are all."""
    told = sorted(lists[:most], key=lambda numbers: (len(numbers), numbers))
    return (told, len(lists) <= most)


def least(pairs, question, most):
    """At most so many least sets of sayings from which a question follows, and whether these are all."""
    choices = choices_of(pairs, question)
    choices.search(choices.enough, most)
    return told_of([choices.numbers_in(choice) for choice in choices.enough], most)


def cuts(pairs, question, most):
    """At most so many cuts, without which a question does not follow, and whether these are all."""
    choices = choices_of(pairs, question)
    choices.search(choices.short, most)
    return told_of([choices.numbers_in(choices.whole & ~choice) for choice in choices.short], most)
