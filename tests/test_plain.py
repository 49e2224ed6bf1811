"""Points [12], [13]: the plain form of kinds and of sayings."""

import copy
import itertools
import random
import unittest

from kinwords.plain import plain, plain_saying
from kinwords.words import show_kind
from kinwords.worlds import keeps, members


def both(*kinds):
    """Boths nested to the right."""
    if len(kinds) == 1:
        return kinds[0]
    return ("both", kinds[0], both(*kinds[1:]))


def both_left(*kinds):
    """Boths nested to the left."""
    if len(kinds) == 1:
        return kinds[0]
    return ("both", both_left(*kinds[:-1]), kinds[-1])


def some(tie, kind):
    return ("some", tie, kind)


def random_kind(source, tuples):
    if tuples == 0:
        return source.choice(["a", "b", "c", "z", "r", "anything", "anything"] + ["nothing"] * (source.random() < 0.2))
    if source.random() < 0.4:
        return some(source.choice(["r", "s", "a"]), random_kind(source, tuples - 1))
    left = source.randrange(tuples)
    return ("both", random_kind(source, left), random_kind(source, tuples - 1 - left))


def mixed_up(source, kind):
    """A kind that differs in the order, the nesting and the doubling of what stands in its boths."""
    parts = []
    waiting = [kind]
    while waiting:
        part = waiting.pop()
        if part[0] == "both":
            waiting.extend(part[1:])
        elif part[0] == "some":
            parts.append(some(part[1], mixed_up(source, part[2])))
        else:
            parts.append(part)
    parts.extend([part for part in parts if source.random() < 0.3])
    source.shuffle(parts)
    while len(parts) > 1:
        at = source.randrange(len(parts) - 1)
        parts[at:at + 2] = [("both", parts[at], parts[at + 1])]
    return parts[0]


def random_world(source, many):
    places = list(range(many))
    kinds = {name: [place for place in places if source.random() < 0.5] for name in ["a", "b", "c", "z"]}
    pairs = [(one, other) for one in places for other in places]
    ties = {name: [pair for pair in pairs if source.random() < 0.4] for name in ["r", "s", "a"]}
    return (many, kinds, ties, {})


def told_by_texts(kind):
    """The writing of the plain form, found by texts and sets of these alone."""
    texts = texts_of_bits(kind)
    if "nothing" in texts:
        return "nothing"
    rows = sorted(texts)
    if not rows:
        return "anything"
    return "".join(f"(both {row} " for row in rows[:-1]) + rows[-1] + ")" * (len(rows) - 1)


def texts_of_bits(kind):
    if kind == "anything":
        return set()
    if isinstance(kind, str):
        return {kind}
    if kind[0] == "both":
        return texts_of_bits(kind[1]) | texts_of_bits(kind[2])
    inner = told_by_texts(kind[2])
    return {"nothing" if inner == "nothing" else f"(some {kind[1]} {inner})"}


class Bits(unittest.TestCase):
    def check(self, kind, wanted):
        self.assertEqual(plain(kind), wanted, kind)
        self.assertEqual(plain(wanted), wanted, wanted)

    def test_words(self):
        for kind in ["cat", "anything", "nothing", "a", "bot", "abcdefghijkl"]:
            self.check(kind, kind)

    def test_anything_has_no_bit(self):
        self.check(("both", "anything", "anything"), "anything")
        self.check(("both", "anything", "a"), "a")
        self.check(("both", "a", "anything"), "a")
        self.check(("both", ("both", "anything", "b"), ("both", "a", "anything")), ("both", "a", "b"))
        self.check(both("anything", "anything", "anything", "anything"), "anything")
        self.check(both_left("anything", "anything", "a", "anything"), "a")
        self.check(("both", "anything", some("r", "a")), some("r", "a"))

    def test_nothing_takes_all(self):
        self.check(("both", "nothing", "a"), "nothing")
        self.check(("both", "a", "nothing"), "nothing")
        self.check(("both", "nothing", "anything"), "nothing")
        self.check(("both", "anything", "nothing"), "nothing")
        self.check(("both", "nothing", "nothing"), "nothing")
        self.check(both("a", "b", some("r", "a"), "nothing", "c"), "nothing")
        self.check(both_left("nothing", "b", "a"), "nothing")

    def test_order(self):
        self.check(("both", "b", "a"), ("both", "a", "b"))
        self.check(("both", "a", "b"), ("both", "a", "b"))
        for row in itertools.permutations(["a", "b", "c", "d"]):
            self.check(both(*row), both("a", "b", "c", "d"))
            self.check(both_left(*row), both("a", "b", "c", "d"))
            self.check(("both", ("both", row[0], row[1]), ("both", row[2], row[3])), both("a", "b", "c", "d"))

    def test_nesting(self):
        wanted = ("both", "a", ("both", "b", ("both", "c", "d")))
        self.check(("both", ("both", ("both", "a", "b"), "c"), "d"), wanted)
        self.check(("both", ("both", "a", ("both", "b", "c")), "d"), wanted)
        self.check(("both", "a", ("both", ("both", "b", "c"), "d")), wanted)

    def test_doubled_bits(self):
        self.check(("both", "a", "a"), "a")
        self.check(both("a", "b", "a"), ("both", "a", "b"))
        self.check(both_left("b", "b", "a", "b", "a"), ("both", "a", "b"))
        self.check(("both", some("r", "a"), some("r", "a")), some("r", "a"))
        self.check(("both", some("r", "a"), some("s", "a")), ("both", some("r", "a"), some("s", "a")))
        self.check(("both", some("s", "a"), some("r", "a")), ("both", some("r", "a"), some("s", "a")))

    def test_doubled_somes_whose_kinds_differ_in_order_nesting_or_doubling(self):
        inner = both("a", "b", "c")
        wanted = some("r", inner)
        for other in [both("c", "b", "a"), both_left("a", "b", "c"), both("a", "a", "b", "c"),
                      both("a", "anything", "b", "c"), both_left("c", "a", "b", "b")]:
            self.check(("both", some("r", inner), some("r", other)), wanted)
            self.check(("both", some("r", other), some("r", other)), wanted)
            self.check(("both", some("r", some("s", inner)), some("r", some("s", other))), some("r", some("s", inner)))
            self.check(("both", some("r", other), some("s", inner)), ("both", wanted, some("s", inner)))

    def test_inside_somes(self):
        self.check(some("r", ("both", "b", "a")), some("r", ("both", "a", "b")))
        self.check(some("r", ("both", "a", "a")), some("r", "a"))
        self.check(some("r", some("s", ("both", "b", ("both", "a", "b")))), some("r", some("s", ("both", "a", "b"))))

    def test_some_of_nothing_at_any_depth(self):
        self.check(some("r", "nothing"), "nothing")
        kind = "nothing"
        for at in range(24):
            kind = some("r", kind)
            self.check(kind, "nothing")
        self.check(some("r", ("both", "a", some("s", ("both", "nothing", "b")))), "nothing")
        self.check(both("a", some("r", some("s", "nothing")), "b"), "nothing")
        self.check(some("r", ("both", "anything", some("s", "nothing"))), "nothing")

    def test_some_of_anything(self):
        self.check(some("r", "anything"), some("r", "anything"))
        self.check(some("r", ("both", "anything", "anything")), some("r", "anything"))
        self.check(("both", some("r", "anything"), "anything"), some("r", "anything"))
        self.check(("both", some("r", "anything"), some("r", "a")),
                   ("both", some("r", "a"), some("r", "anything")))
        self.check(some("s", some("r", "anything")), some("s", some("r", "anything")))

    def test_a_kind_and_a_tie_of_the_same_name(self):
        self.check(("both", "dog", some("dog", "dog")), ("both", some("dog", "dog"), "dog"))
        self.check(both(some("dog", "cat"), some("cat", "dog"), "cat", "dog"),
                   both(some("cat", "dog"), some("dog", "cat"), "cat", "dog"))


class Order(unittest.TestCase):
    def check_row(self, *kinds):
        """These are bits in their order, whatever order they came in."""
        self.assertEqual([show_kind(kind) for kind in kinds], sorted(show_kind(kind) for kind in kinds))
        for row in itertools.permutations(kinds):
            self.assertEqual(plain(both(*row)), both(*kinds))
            self.assertEqual(plain(both_left(*row)), both(*kinds))

    def test_one_writing_begins_another(self):
        self.check_row("a", "aa", "aaa", "ab")
        self.check_row("an", "ant", "b", "ba")
        # The closing bracket, and the blank, come ahead of each letter.
        self.check_row(some("r", "a"), some("r", "aa"), some("r", "b"), some("ra", "a"))

    def test_names_stand_behind_somes(self):
        self.check_row(some("z", "z"), "a", "b")
        self.check_row(some("a", "z"), some("z", "a"), "a", "z")

    def test_somes_of_boths_somes_and_names(self):
        self.check_row(some("r", ("both", "a", "b")), some("r", some("r", "a")), some("r", "a"), some("r", "anything"))
        self.check_row(some("r", ("both", "a", "b")), some("r", ("both", "a", "c")), some("r", some("a", "a")),
                       some("r", "a"))

    def test_order_is_by_the_writing_of_plain_forms(self):
        # As handed in the first is written behind the second; in its plain form ahead of it.
        first = some("r", ("both", "z", "a"))
        second = some("r", ("both", "m", "n"))
        self.assertEqual(plain(("both", second, first)),
                         ("both", some("r", ("both", "a", "z")), some("r", ("both", "m", "n"))))
        first = some("r", ("both", "anything", "a"))
        second = some("r", some("s", "b"))
        self.assertEqual(plain(("both", first, second)), ("both", some("r", some("s", "b")), some("r", "a")))

    def test_order_is_not_by_length_nor_by_tuples(self):
        self.check_row("aaaaaaaa", "b")
        self.check_row(some("aaaaaaaa", "a"), some("b", "a"), "a")


class Whole(unittest.TestCase):
    def test_random_kinds_by_texts(self):
        source = random.Random(12)
        for at in range(3000):
            kind = random_kind(source, source.randrange(13))
            self.assertEqual(show_kind(plain(kind)), told_by_texts(kind))

    def test_plain_of_plain_is_itself(self):
        source = random.Random(13)
        for at in range(2000):
            kind = plain(random_kind(source, source.randrange(25)))
            self.assertEqual(plain(kind), kind)

    def test_order_nesting_and_doubling_do_not_count(self):
        source = random.Random(14)
        for at in range(1000):
            kind = random_kind(source, source.randrange(12))
            self.assertEqual(plain(mixed_up(source, kind)), plain(kind))

    def test_same_members_in_worlds(self):
        source = random.Random(15)
        for at in range(1500):
            world = random_world(source, source.choice([0, 1, 1, 2, 3, 8]))
            kind = random_kind(source, source.randrange(10))
            self.assertEqual(members(world, plain(kind)), members(world, kind))

    def test_all_small_kinds_in_all_small_worlds(self):
        words = ["a", "anything", "nothing"]
        one = words + [("both", x, y) for x in words for y in words] + [some("r", x) for x in words]
        two = one + [("both", x, y) for x in one for y in one] + [some("r", x) for x in one]
        pairs = [(0, 0), (0, 1), (1, 0), (1, 1)]
        worlds = [(0, {}, {}, {})]
        for chosen in itertools.product([False, True], repeat=6):
            ties = {"r": [pair for pair, taken in zip(pairs, chosen) if taken]}
            worlds.append((2, {"a": [place for place in (0, 1) if chosen[4 + place]]}, ties, {}))
        worlds.extend([(1, {"a": a}, {"r": r}, {}) for a in ([], [0]) for r in ([], [(0, 0)])])
        for kind in two:
            for world in worlds:
                self.assertEqual(members(world, plain(kind)), members(world, kind))

    def test_many_tuples(self):
        for many in [24, 25, 49]:
            chain = "a"
            left = right = "a"
            for at in range(many):
                chain = some("r", chain)
                left = ("both", left, "b")
                right = ("both", "b", right)
            self.assertEqual(plain(chain), chain)
            self.assertEqual(plain(left), ("both", "a", "b"))
            self.assertEqual(plain(right), ("both", "a", "b"))
            mixed = "z"
            wanted = "z"
            for at in range(many // 2):
                mixed = ("both", some("r", mixed), "a")
                wanted = ("both", some("r", wanted), "a")
            self.assertEqual(plain(mixed), wanted)
        names = ["n" + chr(97 + at) for at in range(25)]
        self.assertEqual(plain(both_left(*reversed(names))), both(*names))

    def test_what_is_told_are_tuples_and_texts(self):
        told = plain(("both", some("r", "b"), ("both", "a", "a")))
        self.assertIs(type(told), tuple)
        self.assertIs(type(told[1]), tuple)

    def test_what_is_handed_in_is_as_it_was(self):
        source = random.Random(16)
        for at in range(50):
            kind = random_kind(source, 8)
            before = copy.deepcopy(kind)
            plain(kind)
            self.assertEqual(kind, before)


class Sayings(unittest.TestCase):
    def check(self, saying, wanted):
        told = plain_saying(saying)
        self.assertEqual(told, wanted)
        self.assertIs(type(told), tuple)
        self.assertEqual(plain_saying(wanted), wanted)

    def test_every_and_no(self):
        for form in ["every", "no"]:
            self.check((form, ("both", "b", "a"), ("both", "c", "c")), (form, ("both", "a", "b"), "c"))
            self.check((form, ("both", "c", "c"), ("both", "b", "a")), (form, "c", ("both", "a", "b")))
            # The kinds themselves keep their places.
            self.check((form, "b", "a"), (form, "b", "a"))
            self.check((form, "a", "a"), (form, "a", "a"))
            self.check((form, some("r", "nothing"), ("both", "anything", "anything")), (form, "nothing", "anything"))
            self.check((form, "anything", "nothing"), (form, "anything", "nothing"))

    def test_thing(self):
        self.check(("thing", "Ann", ("both", "b", ("both", "a", "b"))), ("thing", "Ann", ("both", "a", "b")))
        self.check(("thing", "Ann", some("r", some("s", "nothing"))), ("thing", "Ann", "nothing"))
        self.check(("thing", "Ann", "dog"), ("thing", "Ann", "dog"))

    def test_sayings_without_kinds_are_as_they_were(self):
        for saying in [("tied", "Rex", "owns", "Ann"), ("tied", "Ann", "owns", "Ann"), ("within", "s", "r"),
                       ("within", "r", "r"), ("makes", "t", "s", "r"), ("makes", "r", "r", "s")]:
            self.check(saying, saying)

    def test_names_that_are_words_of_the_forms(self):
        self.check(("every", ("both", "tied", "thing"), "thing"), ("every", ("both", "thing", "tied"), "thing"))

    def test_same_worlds_keep_them(self):
        source = random.Random(17)
        for at in range(800):
            many, kinds, ties, things = random_world(source, source.choice([1, 2, 3]))
            world = (many, kinds, ties, {"Ann": source.randrange(many)})
            pair = [random_kind(source, source.randrange(6)) for side in range(2)]
            for saying in [("every", *pair), ("no", *pair), ("thing", "Ann", pair[0])]:
                self.assertEqual(keeps(world, plain_saying(saying)), keeps(world, saying))

    def test_what_is_handed_in_is_as_it_was(self):
        saying = ("every", ("both", "b", "a"), some("r", ("both", "c", "c")))
        before = copy.deepcopy(saying)
        plain_saying(saying)
        self.assertEqual(saying, before)


if __name__ == "__main__":
    unittest.main()
