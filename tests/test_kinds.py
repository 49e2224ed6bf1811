"""Points [5] and [6]: depth, within, named."""

import unittest

from kinwords.kinds import depth, named, within


def nested(many, form, side):
    """A kind with so many tuples within one another, to the left or to the right."""
    kind = "core"
    for at in range(many):
        if form == "some":
            kind = ("some", "r", kind)
        elif side == "left":
            kind = ("both", kind, "side")
        else:
            kind = ("both", "side", kind)
    return kind


class Depth(unittest.TestCase):
    def test_words_have_none(self):
        for kind in ["cat", "anything", "nothing", "a", "abcdefghijkl"]:
            self.assertEqual(depth(kind), 0)

    def test_one_tuple(self):
        self.assertEqual(depth(("both", "a", "b")), 1)
        self.assertEqual(depth(("some", "r", "a")), 1)
        self.assertEqual(depth(("some", "r", "anything")), 1)
        self.assertEqual(depth(("both", "nothing", "anything")), 1)

    def test_greatest_of_both_sides_counts(self):
        deep = ("some", "r", ("some", "r", "a"))
        self.assertEqual(depth(("both", deep, "b")), 3)
        self.assertEqual(depth(("both", "b", deep)), 3)
        self.assertEqual(depth(("both", deep, ("both", "a", "b"))), 3)
        self.assertEqual(depth(("both", deep, deep)), 3)
        self.assertEqual(depth(("some", "r", ("both", "a", ("some", "s", "b")))), 3)

    def test_nests(self):
        for many in [2, 3, 10, 23, 24, 25, 49]:
            self.assertEqual(depth(nested(many, "both", "left")), many)
            self.assertEqual(depth(nested(many, "both", "right")), many)
            self.assertEqual(depth(nested(many, "some", "right")), many)

    def test_many_tuples_of_small_depth(self):
        kind = "a"
        for at in range(4):
            kind = ("both", kind, kind)
        self.assertEqual(depth(kind), 4)

    def test_told_is_a_whole_number(self):
        for kind in ["a", ("some", "r", "a")]:
            self.assertIs(type(depth(kind)), int)


class Within(unittest.TestCase):
    def check(self, kind, wanted):
        told = within(kind)
        self.assertIs(type(told), list)
        self.assertEqual(len(told), len(wanted), told)
        for part in wanted:
            self.assertEqual(told.count(part), 1, part)

    def test_words(self):
        for kind in ["cat", "anything", "nothing"]:
            self.check(kind, [kind])

    def test_both_and_some(self):
        self.check(("both", "a", "b"), [("both", "a", "b"), "a", "b"])
        self.check(("some", "r", "a"), [("some", "r", "a"), "a"])
        self.check(("some", "r", "anything"), [("some", "r", "anything"), "anything"])
        self.check(("both", "nothing", "a"), [("both", "nothing", "a"), "nothing", "a"])

    def test_a_kind_that_stands_there_twice(self):
        self.check(("both", "a", "a"), [("both", "a", "a"), "a"])
        part = ("some", "r", "a")
        again = ("some", "r", "a")
        kind = ("both", part, ("both", again, "a"))
        self.check(kind, [kind, part, ("both", part, "a"), "a"])

    def test_order_and_ties_part_kinds(self):
        first = ("both", "a", "b")
        second = ("both", "b", "a")
        kind = ("both", first, second)
        self.check(kind, [kind, first, second, "a", "b"])
        first = ("some", "r", "a")
        second = ("some", "s", "a")
        kind = ("both", first, second)
        self.check(kind, [kind, first, second, "a"])

    def test_a_tie_is_no_kind(self):
        self.check(("some", "dog", "cat"), [("some", "dog", "cat"), "cat"])
        self.check(("some", "dog", "dog"), [("some", "dog", "dog"), "dog"])
        kind = ("both", ("some", "dog", "cat"), "dog")
        self.check(kind, [kind, ("some", "dog", "cat"), "dog", "cat"])

    def test_nests(self):
        for form, side, words in [("both", "left", 2), ("both", "right", 2), ("some", "right", 1)]:
            for many in [2, 24, 25, 49]:
                wanted = [nested(at, form, side) for at in range(many + 1)]
                if words == 2:
                    wanted.append("side")
                self.check(nested(many, form, side), wanted)

    def test_the_told_list_is_the_asker_s_own(self):
        for kind in ["cat", ("both", "a", ("some", "r", "b"))]:
            wanted = within(kind)
            told = within(kind)
            told.clear()
            self.assertEqual(within(kind), wanted)


class Named(unittest.TestCase):
    def check(self, saying, kinds, ties, things):
        told = named(saying)
        self.assertIs(type(told), tuple)
        self.assertEqual(told, (kinds, ties, things))

    def test_every(self):
        self.check(("every", "dog", "pet"), ["dog", "pet"], [], [])
        self.check(("every", "pet", "dog"), ["pet", "dog"], [], [])
        self.check(("every", "dog", "dog"), ["dog"], [], [])

    def test_no(self):
        self.check(("no", "dog", "cat"), ["dog", "cat"], [], [])
        self.check(("no", ("both", "z", "a"), ("both", "m", "z")), ["z", "a", "m"], [], [])

    def test_thing(self):
        self.check(("thing", "Ann", "cat"), ["cat"], [], ["Ann"])
        self.check(("thing", "Ann", ("some", "owns", "cat")), ["cat"], ["owns"], ["Ann"])

    def test_tied(self):
        self.check(("tied", "Rex", "owns", "Ann"), [], ["owns"], ["Rex", "Ann"])
        self.check(("tied", "Ann", "owns", "Ann"), [], ["owns"], ["Ann"])

    def test_within(self):
        self.check(("within", "s", "r"), [], ["s", "r"], [])
        self.check(("within", "r", "r"), [], ["r"], [])

    def test_makes(self):
        self.check(("makes", "t", "s", "r"), [], ["t", "s", "r"], [])
        self.check(("makes", "t", "s", "t"), [], ["t", "s"], [])
        self.check(("makes", "s", "t", "t"), [], ["s", "t"], [])
        self.check(("makes", "t", "t", "t"), [], ["t"], [])

    def test_left_to_right_in_nests(self):
        kind = ("both", ("some", "z", ("both", "y", "x")), ("some", "a", ("some", "b", "c")))
        self.check(("every", kind, "y"), ["y", "x", "c"], ["z", "a", "b"], [])
        self.check(("every", "c", kind), ["c", "y", "x"], ["z", "a", "b"], [])
        self.check(("every", ("both", "m", kind), ("some", "b", "k")),
                   ["m", "y", "x", "c", "k"], ["z", "a", "b"], [])

    def test_anything_and_nothing_are_no_names(self):
        self.check(("every", "anything", "nothing"), [], [], [])
        self.check(("no", ("both", "anything", "a"), ("some", "r", "nothing")), ["a"], ["r"], [])
        self.check(("thing", "Ann", "anything"), [], [], ["Ann"])

    def test_the_same_word_as_kind_and_tie(self):
        self.check(("every", ("some", "dog", "dog"), "cat"), ["dog", "cat"], ["dog"], [])
        self.check(("no", "dog", ("some", "dog", "anything")), ["dog"], ["dog"], [])

    def test_words_of_the_forms_that_are_names(self):
        self.check(("every", "thing", ("some", "tied", "thing")), ["thing"], ["tied"], [])

    def test_the_told_lists_are_the_asker_s_own(self):
        saying = ("thing", "Ann", ("some", "owns", "cat"))
        for names in named(saying):
            names.append("more")
        self.check(saying, ["cat"], ["owns"], ["Ann"])
        first = named(("every", "anything", "anything"))
        first[0].append("more")
        self.assertEqual(first[1:], ([], []))

    def test_nests_of_many_tuples(self):
        for many in [24, 49]:
            self.check(("every", nested(many, "both", "left"), "last"), ["core", "side", "last"], [], [])
            self.check(("every", nested(many, "both", "right"), "last"), ["side", "core", "last"], [], [])
            self.check(("every", nested(many, "some", "right"), "last"), ["core", "last"], ["r"], [])


if __name__ == "__main__":
    unittest.main()
