"""A desk that keeps numbered sayings and answers questions."""

from kinwords.answers import answer
from kinwords.errors import NoSaying
from kinwords.kinds import named
from kinwords.least import cuts as cuts_of, least as least_of
from kinwords.plain import plain_saying
from kinwords.rules import is_whole, stands_for_thing, things_named
from kinwords.stills import still


def kinds_named(pairs):
    """The names of kinds that sayings at hand name, each once."""
    return list({name: True for number, saying in pairs for name in named(saying)[0]})


def kinds_by_stand_in(steps, about):
    """For each of these names the kinds that steps tell it to be, as the keys of a dict."""
    told = {x: {} for x in about}
    for step in steps:
        fact = step[0]
        if fact[0] == "is" and isinstance(fact[1], str) and fact[1] in told and isinstance(fact[2], str):
            told[fact[1]][fact[2]] = True
    return told


def table_of(pairs):
    """The pairs (x, A) of names such that x is A follows from sayings at hand, sorted."""
    names = kinds_named(pairs)
    told = kinds_by_stand_in(still(pairs, names, []), names + list(things_named(pairs)))
    # Where a thing is nothing no world is left, and all follows.
    clash = any([stands_for_thing(x) and "nothing" in told[x] for x in told])
    found = []
    for x in told:
        follows_all = clash or "nothing" in told[x]
        found.extend([(x, kind) for kind in names + ["nothing"] if kind != x and (follows_all or kind in told[x])])
    return sorted(found)


def missing(rows, others):
    """Those of sorted rows that are not among others."""
    there = set(others)
    return [row for row in rows if row not in there]


class Desk:
    """Keeps sayings by numbers, and tells what follows from them."""

    def __init__(self):
        self.kept = []
        self.last = 0
        self.rows = []

    def keep(self, pairs):
        """Keep these numbered sayings and no others; the rows of the table ahead of that are told."""
        rows = self.rows
        self.rows = table_of(pairs)
        self.kept = pairs
        return rows

    def put(self, saying):
        """Put a saying in; its number, and what came into the table."""
        number = self.last + 1
        ahead = self.keep(self.kept + [(number, plain_saying(saying))])
        self.last = number
        return (number, missing(self.rows, ahead))

    def take(self, number):
        """Take a saying out by its number; what fell out of the table, or NoSaying."""
        left = [pair for pair in self.kept if pair[0] != number]
        if not is_whole(number) or len(left) == len(self.kept):
            raise NoSaying(number)
        ahead = self.keep(left)
        return missing(ahead, self.rows)

    def said(self):
        """The numbered sayings."""
        return list(self.kept)

    def ask(self, question):
        """The answer to a question, or NoQuestion."""
        return answer(self.kept, plain_saying(question))

    def least(self, question, most):
        """At most so many least sets, and whether these are all; or TooMany, NoQuestion."""
        return least_of(self.kept, plain_saying(question), most)

    def cuts(self, question, most):
        """At most so many cuts, and whether these are all; or TooMany, NoQuestion."""
        return cuts_of(self.kept, plain_saying(question), most)

    def table(self):
        """The pairs (x, A) of names such that x is A follows."""
        return list(self.rows)
