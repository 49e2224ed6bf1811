"""Points [24] and [25]: least sets and cuts."""

import copy
import random
import unittest

from helper import all_choices, drawn_pairs, drawn_question, numbered, plain_order, slow_cuts, slow_least
from kinwords.answers import follows
from kinwords.errors import KinError, NoQuestion, TooMany
from kinwords.least import cuts, least


class Asked(unittest.TestCase):
    def tell(self, pairs, question):
        """All least sets and all cuts, which are found by the slow way too."""
        known = {}

        def lets_follow(choice):
            key = tuple(number for number, saying in choice)
            if key not in known:
                known[key] = follows(choice, question)
            return known[key]

        whole = (slow_least(pairs, lets_follow), slow_cuts(pairs, lets_follow))
        for asked, lists in zip([least, cuts], whole):
            self.check_counts(asked, pairs, question, lists)
        for cut in whole[1]:
            for one in whole[0]:
                self.assertTrue(set(cut) & set(one))
        return whole

    def check_counts(self, asked, pairs, question, lists):
        """Asked for none, one, fewer than there are, just as many, more."""
        before = copy.deepcopy((pairs, question))
        many = len(lists)
        for most in sorted({0, 1, many // 2, max(many - 1, 0), many, many + 1, 999999999}):
            told = asked(pairs, question, most)
            self.assertIsInstance(told, tuple)
            found, are_all = told
            self.assertIsInstance(found, list)
            self.assertIs(are_all, many <= most)
            if are_all:
                self.assertEqual(found, lists)
            else:
                self.assertEqual(len(found), most)
                self.assertEqual(found, plain_order(found))
                self.assertEqual(len({tuple(one) for one in found}), most)
                for one in found:
                    self.assertIsInstance(one, list)
                    self.assertIn(one, lists)
        self.assertEqual((pairs, question), before)


class Examples(Asked):
    def test_two_ways(self):
        pairs = numbered(("every", "a", "b"), ("every", "b", "c"), ("every", "a", "c"), ("every", "c", "d"))
        self.assertEqual(self.tell(pairs, ("every", "a", "c")), ([[8], [2, 5]], [[2, 8], [5, 8]]))
        self.assertEqual(self.tell(pairs, ("every", "a", "d")), ([[8, 11], [2, 5, 11]], [[11], [2, 8], [5, 8]]))
        self.assertEqual(least(pairs, ("every", "a", "c"), 2), ([[8], [2, 5]], True))
        self.assertEqual(cuts(pairs, ("every", "a", "c"), 2), ([[2, 8], [5, 8]], True))

    def test_two_sayings_that_are_alike(self):
        pairs = numbered(("every", "a", "b"), ("every", "a", "b"), ("every", "b", "c"))
        self.assertEqual(self.tell(pairs, ("every", "a", "c")), ([[2, 8], [5, 8]], [[8], [2, 5]]))
        pairs = numbered(("thing", "Ann", "a"), ("thing", "Ann", "a"))
        self.assertEqual(self.tell(pairs, ("thing", "Ann", "a")), ([[2], [5]], [[2, 5]]))

    def test_what_follows_from_no_saying(self):
        for pairs in [[], numbered(("every", "a", "b")), numbered(("thing", "Ann", "nothing"), ("every", "a", "a"))]:
            for question in [("every", "a", "a"), ("every", "nothing", "b"), ("no", "a", "nothing"), ("every", ("both", "a", "b"), "b")]:
                self.assertEqual(self.tell(pairs, question), ([[]], []))
                self.assertEqual(least(pairs, question, 0), ([], False))
                self.assertEqual(least(pairs, question, 1), ([[]], True))
                self.assertEqual(cuts(pairs, question, 0), ([], True))

    def test_what_does_not_follow(self):
        for pairs in [[], numbered(("every", "a", "b")), numbered(("thing", "Ann", "a"), ("no", "b", "c"))]:
            for question in [("every", "b", "a"), ("thing", "Zed", "anything"), ("no", "a", "a"), ("tied", "Ann", "r", "Ann")]:
                self.assertEqual(self.tell(pairs, question), ([], [[]]))
                self.assertEqual(least(pairs, question, 0), ([], True))
                self.assertEqual(cuts(pairs, question, 0), ([], False))
                self.assertEqual(cuts(pairs, question, 1), ([[]], True))

    def test_a_thing_is_anything_by_each_saying_that_names_it(self):
        pairs = numbered(("tied", "Ann", "r", "Bob"), ("thing", "Bob", "a"), ("thing", "Ann", "b"), ("every", "c", "d"))
        self.assertEqual(self.tell(pairs, ("thing", "Bob", "anything")), ([[2], [5]], [[2, 5]]))
        self.assertEqual(self.tell(pairs, ("thing", "Ann", "anything")), ([[2], [8]], [[2, 8]]))

    def test_void_and_clash(self):
        pairs = numbered(("no", "a", "b"), ("every", "c", ("both", "a", "b")), ("thing", "Ann", "c"), ("every", "c", "d"),
                         ("thing", "Bob", "nothing"))
        self.assertEqual(self.tell(pairs, ("every", "c", "d")), ([[11], [14], [2, 5]], [[2, 11, 14], [5, 11, 14]]))
        self.assertEqual(self.tell(pairs, ("thing", "Zed", "z")), ([[14], [2, 5, 8]], [[2, 14], [5, 14], [8, 14]]))

    def test_ties(self):
        pairs = numbered(("tied", "Ann", "r", "Bob"), ("within", "r", "s"), ("makes", "s", "s", "s"), ("tied", "Bob", "s", "Cay"),
                         ("tied", "Ann", "s", "Cay"), ("tied", "Ann", "s", "Bob"))
        self.assertEqual(self.tell(pairs, ("tied", "Ann", "s", "Cay")),
                         ([[14], [8, 11, 17], [2, 5, 8, 11]], [[8, 14], [11, 14], [2, 14, 17], [5, 14, 17]]))

    def test_sorted_by_lengths_then_as_lists(self):
        # By texts, or by lists alone, the order would be another one.
        pairs = [(2, ("every", "a", "b")), (3, ("every", "b", "z")), (9, ("every", "a", "c")), (10, ("every", "c", "z")),
                 (11, ("every", "a", "z")), (100, ("every", "a", "z"))]
        self.assertEqual(self.tell(pairs, ("every", "a", "z"))[0], [[11], [100], [2, 3], [9, 10]])

    def test_many_of_them(self):
        # Four stages of three alike sayings each.
        pairs = numbered(*[("every", "n" + letter, "n" + chr(ord(letter) + 1)) for letter in "abcd" for at in range(3)])
        self.assertEqual(len(pairs), 12)
        question = ("every", "na", "ne")
        found = least(pairs, question, 81)
        self.assertEqual((len(found[0]), found[1]), (81, True))
        self.assertEqual(found[0], sorted(found[0]))
        self.assertEqual({len(one) for one in found[0]}, {4})
        self.assertEqual(cuts(pairs, question, 4), ([[2, 5, 8], [11, 14, 17], [20, 23, 26], [29, 32, 35]], True))
        for most in [0, 1, 40, 80]:
            told = least(pairs, question, most)
            self.assertEqual((len(told[0]), told[1]), (most, False))
            for one in told[0]:
                self.assertIn(one, found[0])
        # Each of six stages by one of two sayings: the cuts of the one are the least sets of the other.
        pairs = numbered(*[("every", "n" + letter, "n" + chr(ord(letter) + 1)) for letter in "abcdef" for at in range(2)])
        self.assertEqual(len(least(pairs, ("every", "na", "ng"), 100)[0]), 64)
        self.assertEqual(len(cuts(pairs, ("every", "na", "ng"), 100)[0]), 6)

    def test_many_cuts(self):
        # Three rows of four: one saying of each row must go.
        rows = [("every", "a" if at == 0 else row + str("bcd"[at - 1]), "z" if at == 3 else row + "bcd"[at])
                for row in ["k", "l", "m"] for at in range(4)]
        pairs = numbered(*rows)
        found = cuts(pairs, ("every", "a", "z"), 64)
        self.assertEqual((len(found[0]), found[1]), (64, True))
        self.assertEqual(found[0], sorted(found[0]))
        self.assertEqual(cuts(pairs, ("every", "a", "z"), 63)[1], False)
        self.assertEqual(len(cuts(pairs, ("every", "a", "z"), 63)[0]), 63)
        self.assertEqual(least(pairs, ("every", "a", "z"), 9), ([[2, 5, 8, 11], [14, 17, 20, 23], [26, 29, 32, 35]], True))


class Refused(unittest.TestCase):
    def test_thirteen_sayings(self):
        pairs = numbered(*[("every", "a", "b")] * 13)
        for question in [("every", "a", "b"), ("every", "b", "a"), ("within", "r", "s"), ("makes", "r", "s", "t")]:
            for most in [0, 1, 99]:
                for asked in [least, cuts]:
                    before = copy.deepcopy(pairs)
                    with self.assertRaises(TooMany) as caught:
                        asked(pairs, question, most)
                    self.assertIsInstance(caught.exception, KinError)
                    self.assertEqual(pairs, before)
        with self.assertRaises(TooMany):
            least(numbered(*[("within", "r", "s")] * 60), ("every", "a", "b"), 0)

    def test_twelve_are_not(self):
        pairs = numbered(*[("every", "a", "b")] * 12)
        numbers = [number for number, saying in pairs]
        self.assertEqual(least(pairs, ("every", "a", "b"), 20), ([[number] for number in numbers], True))
        self.assertEqual(cuts(pairs, ("every", "a", "b"), 20), ([numbers], True))

    def test_no_question(self):
        for many in [0, 1, 12]:
            for question in [("within", "r", "s"), ("makes", "r", "s", "t")]:
                for most in [0, 1, 99]:
                    for asked in [least, cuts]:
                        with self.assertRaises(NoQuestion):
                            asked(numbered(*[question] * many), question, most)


class Asker(unittest.TestCase):
    def test_what_is_told_is_the_askers_own(self):
        pairs = numbered(("every", "a", "b"), ("every", "b", "c"), ("every", "a", "c"))
        for asked in [least, cuts]:
            wanted = copy.deepcopy(asked(pairs, ("every", "a", "c"), 5))
            told = asked(pairs, ("every", "a", "c"), 5)[0]
            for one in told:
                one.append(99)
            told.append([1])
            self.assertEqual(asked(pairs, ("every", "a", "c"), 5), wanted)


class Bounds(unittest.TestCase):
    def test_twelve_sayings_with_two_hundred_tuples(self):
        def chained(tie, many, end):
            kind = end
            for at in range(many):
                kind = ("some", tie, kind)
            return kind

        names = ["k" + letter for letter in "abcdefgh"]
        rows = [("every", one, chained("r", 24, other)) for one, other in zip(names, names[1:] + names[:1])]
        rows += [("makes", "r", "r", "r"), ("within", "r", "s"), ("every", "ka", ("some", "r", "kb")), ("thing", "Ann", "ka")]
        pairs = list(enumerate(rows, 1))
        question = ("thing", "Ann", ("some", "s", "kc"))
        self.assertEqual(least(pairs, question, 5), ([[1, 2, 9, 10, 12], [2, 9, 10, 11, 12]], True))
        self.assertEqual(cuts(pairs, question, 9), ([[2], [9], [10], [12], [1, 11]], True))


class Drawn(Asked):
    def test_drawn_sayings(self):
        source = random.Random(2424)
        found = {}
        for turn in range(700):
            pairs = drawn_pairs(source, 8)
            question = drawn_question(source)
            told = self.tell(pairs, question)
            key = (min(len(told[0]), 3), min(len(told[1]), 3))
            found[key] = found.get(key, 0) + 1
        for key in [(0, 1), (1, 0), (1, 1), (1, 2), (1, 3), (2, 1), (2, 2), (2, 3)]:
            self.assertGreater(found.get(key, 0), 0, key)

    def test_drawn_sayings_with_many_ways(self):
        source = random.Random(2425)
        kinds = ["a", "b", "c", ("both", "a", "b"), ("some", "r", "a"), ("some", "r", "b")]
        many = 0
        while many < 40:
            pairs = drawn_pairs(source, 9, kinds=kinds, ties=["r"], things=["Ann"])
            question = drawn_question(source, kinds, ["r"], ["Ann"])
            if follows(pairs, question) and not follows([], question):
                self.tell(pairs, question)
                many += 1

    def test_each_least_set_lets_follow_and_none_with_one_fewer(self):
        source = random.Random(2426)
        for turn in range(100):
            pairs = drawn_pairs(source, 12)
            question = drawn_question(source)
            for numbers in least(pairs, question, 3)[0]:
                self.assertEqual(numbers, sorted(set(numbers)))
                for gone in [None] + numbers:
                    choice = [pair for pair in pairs if pair[0] in numbers and pair[0] != gone]
                    self.assertIs(follows(choice, question), gone is None)
            for numbers in cuts(pairs, question, 3)[0]:
                self.assertEqual(numbers, sorted(set(numbers)))
                for back in [None] + numbers:
                    choice = [pair for pair in pairs if pair[0] not in numbers or pair[0] == back]
                    self.assertIs(follows(choice, question), back is not None)


class Helper(unittest.TestCase):
    def test_all_choices(self):
        self.assertEqual(sorted(all_choices([1, 2])), [[], [1], [1, 2], [2]])


if __name__ == "__main__":
    unittest.main()
