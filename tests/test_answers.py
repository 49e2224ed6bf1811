"""Points [22] and [23]: goals, and whether a question follows."""

import copy
import random
import unittest

from helper import KINDS, drawn_pairs, drawn_question, is_right_besides, numbered
from kinwords.answers import answer, follows, goal
from kinwords.errors import KinError, NoQuestion
from kinwords.rules import right
from kinwords.worlds import broken, keeps

NO_QUESTIONS = [("within", "r", "s"), ("within", "r", "r"), ("makes", "r", "s", "t"), ("makes", "r", "r", "r")]


def deep(many, leaf="a", tie="r", form="mixed"):
    """A kind of so many tuples."""
    kind = leaf
    for at in range(many):
        if form == "some" or (form == "mixed" and at % 2):
            kind = ("some", tie, kind)
        else:
            kind = ("both", "b", kind) if at % 3 else ("both", kind, "c")
    return kind


class Asked(unittest.TestCase):
    def tell(self, pairs, question):
        """Whether a question follows; that this is so is seen by the steps, or by the world."""
        before = copy.deepcopy((pairs, question))
        told = answer(pairs, question)
        self.assertIs(follows(pairs, question), told[0] == "follows")
        self.assertEqual((pairs, question), before)
        self.assertIsInstance(told, tuple)
        self.assertEqual(len(told), 2)
        if told[0] == "follows":
            self.check_steps(told[1], pairs, question)
            return True
        self.assertEqual(told[0], "fails")
        self.check_world(told[1], pairs, question)
        return False

    def check_steps(self, steps, pairs, question):
        self.assertIsInstance(steps, list)
        for at, (fact, rule, froms, number) in enumerate(steps):
            self.assertIsInstance(froms, list)
            self.assertTrue(right(steps, at, pairs) or is_right_besides(steps, at), (steps, at))
        self.assertEqual(steps[-1][0], goal(question))

    def check_world(self, world, pairs, question):
        many, kinds, ties, things = world
        for spots in kinds.values():
            self.assertEqual(spots, sorted(set(spots)))
            self.assertTrue(set(spots) <= set(range(many)))
        for tied in ties.values():
            self.assertEqual(len(tied), len(set(tied)))
            self.assertTrue({spot for pair in tied for spot in pair} <= set(range(many)))
        self.assertTrue(set(things.values()) <= set(range(many)))
        self.assertEqual(broken(world, [saying for number, saying in pairs]), [])
        self.assertFalse(keeps(world, question), (pairs, question, world))

    def yes(self, pairs, *questions):
        for question in questions:
            self.assertTrue(self.tell(pairs, question), question)

    def no(self, pairs, *questions):
        for question in questions:
            self.assertFalse(self.tell(pairs, question), question)


class Goals(unittest.TestCase):
    def test_the_four_forms(self):
        both = ("both", "a", "b")
        for question, fact in [
                (("every", both, "c"), ("is", both, "c")),
                (("every", "a", ("some", "r", "b")), ("is", "a", ("some", "r", "b"))),
                (("no", "a", "b"), ("is", both, "nothing")),
                (("no", both, ("some", "r", "a")), ("is", ("both", both, ("some", "r", "a")), "nothing")),
                (("no", "b", "a"), ("is", ("both", "b", "a"), "nothing")),
                (("thing", "Ann", both), ("is", "Ann", both)),
                (("tied", "Ann", "r", "Bob"), ("has", "Ann", "r", "Bob"))]:
            self.assertEqual(goal(question), fact)

    def test_a_goal_of_forty_nine_tuples(self):
        one, other = deep(24), deep(24, "d")
        self.assertEqual(goal(("no", one, other)), ("is", ("both", one, other), "nothing"))

    def test_no_question(self):
        for question in NO_QUESTIONS:
            with self.assertRaises(NoQuestion) as caught:
                goal(question)
            self.assertIsInstance(caught.exception, KinError)
            for pairs in [[], numbered(question), numbered(("thing", "Ann", "nothing"))]:
                for asked in [follows, answer]:
                    before = copy.deepcopy(pairs)
                    with self.assertRaises(NoQuestion):
                        asked(pairs, question)
                    self.assertEqual(pairs, before)


class NoSayings(Asked):
    def test_what_follows_from_nothing(self):
        both = ("both", "a", "b")
        self.yes([], ("every", "a", "a"), ("every", "a", "anything"), ("every", "nothing", "a"), ("every", both, "a"),
                 ("every", both, ("both", "b", "a")), ("every", "a", ("both", "a", "a")), ("no", "nothing", "a"),
                 ("no", "a", "nothing"), ("every", ("some", "r", both), ("some", "r", "b")), ("no", "a", ("some", "r", "nothing")),
                 ("every", ("some", "r", "nothing"), "a"), ("every", ("both", "a", "nothing"), "c"))

    def test_what_does_not(self):
        self.no([], ("every", "a", "b"), ("every", "anything", "a"), ("every", "a", "nothing"), ("no", "a", "b"),
                ("no", "a", "a"), ("no", "anything", "anything"), ("every", "a", ("both", "a", "b")),
                ("every", "a", ("some", "r", "anything")), ("thing", "Ann", "a"), ("thing", "Ann", "anything"),
                ("tied", "Ann", "r", "Bob"), ("every", ("some", "r", "a"), ("some", "s", "a")),
                ("every", ("both", ("some", "r", "a"), ("some", "r", "b")), ("some", "r", ("both", "a", "b"))))


class Sayings(Asked):
    def test_a_question_that_stands_among_the_sayings(self):
        for question in [("every", "a", ("some", "r", "b")), ("no", ("both", "a", "b"), "c"), ("thing", "Ann", ("both", "a", "a")),
                         ("tied", "Ann", "r", "Ann"), ("every", deep(24), deep(24, "d")), ("no", deep(24), deep(24, "d"))]:
            self.yes(numbered(question), question)
            self.yes(numbered(("every", "a", "b"), question, ("within", "r", "s")), question)

    def test_a_row_of_sayings(self):
        pairs = numbered(("every", "a", "b"), ("every", "b", ("some", "r", "c")), ("every", ("some", "s", "d"), "e"),
                         ("within", "r", "s"), ("every", "c", "d"), ("thing", "Ann", "a"), ("tied", "Bob", "r", "Ann"))
        self.yes(pairs, ("every", "a", "e"), ("thing", "Ann", "e"), ("thing", "Bob", ("some", "s", "e")),
                 ("tied", "Bob", "s", "Ann"), ("every", ("both", "z", "a"), ("both", "e", "z")))
        self.no(pairs, ("every", "e", "a"), ("thing", "Bob", "e"), ("tied", "Ann", "r", "Bob"), ("every", "c", "e"),
                ("tied", "Ann", "s", "Bob"), ("no", "a", "e"))

    def test_ties_made(self):
        pairs = numbered(("makes", "r", "s", "t"), ("tied", "Ann", "r", "Bob"), ("tied", "Bob", "s", "Cay"), ("makes", "t", "t", "t"),
                         ("tied", "Cay", "t", "Dan"))
        self.yes(pairs, ("tied", "Ann", "t", "Cay"), ("tied", "Ann", "t", "Dan"), ("thing", "Ann", ("some", "t", "anything")),
                 ("every", ("some", "r", ("some", "s", ("some", "t", "a"))), ("some", "t", "a")))
        self.no(pairs, ("tied", "Ann", "s", "Cay"), ("tied", "Bob", "t", "Dan"), ("every", ("some", "s", ("some", "r", "a")), ("some", "t", "a")))

    def test_no_of_kinds(self):
        pairs = numbered(("no", "a", "b"), ("every", "c", "a"), ("every", "d", "b"))
        self.yes(pairs, ("no", "c", "d"), ("no", "d", "c"), ("no", ("some", "r", ("both", "c", "d")), "z"), ("every", ("both", "d", "c"), "z"))
        self.no(pairs, ("no", "c", "a"), ("no", "c", "c"), ("no", ("some", "r", "c"), ("some", "r", "d")))

    def test_no_of_the_same_kind(self):
        for kind in KINDS:
            if kind != "nothing":
                self.no([], ("no", kind, kind))
            self.yes(numbered(("every", kind, "nothing")), ("no", kind, kind))
            self.yes(numbered(("no", kind, kind)), ("no", kind, kind), ("every", kind, "nothing"), ("every", kind, "z"))

    def test_no_where_one_is_nothing(self):
        for pairs in [[], numbered(("every", "a", "b"), ("thing", "Ann", "a"))]:
            for kind in KINDS + ["z", deep(24)]:
                self.yes(pairs, ("no", kind, "nothing"), ("no", "nothing", kind))

    def test_a_word_that_is_a_kind_and_a_tie(self):
        pairs = numbered(("within", "a", "b"), ("thing", "Ann", "a"), ("tied", "Ann", "c", "Bob"), ("every", "c", "a"))
        self.no(pairs, ("every", "a", "b"), ("thing", "Ann", "b"), ("tied", "Ann", "a", "Bob"))
        self.yes(pairs, ("every", ("some", "a", "a"), ("some", "b", "a")), ("every", "c", "a"))


class Void(Asked):
    """Kinds that have no member in any world."""

    def test_every_question_about_such_a_kind_follows(self):
        for pairs in [numbered(("every", "a", "nothing")), numbered(("no", "a", "a")), numbered(("no", "a", "anything")),
                      numbered(("every", "a", ("some", "r", "b")), ("no", "b", ("both", "b", "b"))),
                      numbered(("every", "a", ("both", "b", "c")), ("no", "c", "b"))]:
            self.yes(pairs, ("every", "a", "nothing"), ("every", "a", "zebra"), ("every", "a", deep(24)),
                     ("every", ("both", "z", "a"), "y"), ("every", ("some", "r", ("some", "s", "a")), "y"), ("no", "a", "zebra"))
            self.no(pairs, ("every", "z", "a"), ("no", "z", "z"), ("thing", "Ann", "a"), ("thing", "Ann", "anything"),
                    ("tied", "Ann", "r", "Bob"))

    def test_the_steps_end_by_void(self):
        pairs = numbered(("every", "a", "nothing"))
        self.assertEqual(answer(pairs, ("every", "a", "zebra"))[1][-1][1], "void")
        self.assertEqual(answer([], ("every", "nothing", "zebra"))[1][-1][1], "void")

    def test_anything_that_is_nothing(self):
        # Worlds without places are left.
        pairs = numbered(("every", "anything", "nothing"))
        self.yes(pairs, ("every", "a", "b"), ("no", "a", "a"), ("every", "anything", "c"))
        self.no(pairs, ("thing", "Ann", "a"), ("tied", "Ann", "r", "Ann"))


class Clash(Asked):
    """Things that are told to be nothing, so that no world is left."""

    CLASHES = [
        numbered(("thing", "Ann", "nothing")),
        numbered(("thing", "Ann", "a"), ("no", "a", "a")),
        numbered(("every", "anything", "nothing"), ("tied", "Ann", "r", "Bob")),
        numbered(("thing", "Bob", "a"), ("thing", "Bob", "b"), ("no", "b", "a"), ("thing", "Ann", "c")),
        numbered(("tied", "Ann", "r", "Bob"), ("within", "r", "s"), ("no", ("some", "s", "anything"), "anything")),
        numbered(("thing", "Ann", ("some", "r", ("some", "r", "nothing")))),
    ]

    def test_each_question_follows(self):
        for pairs in self.CLASHES:
            self.yes(pairs, ("every", "a", "b"), ("every", "z", "y"), ("every", "anything", "nothing"), ("no", "z", "y"), ("no", "z", "z"),
                     ("thing", "Ann", "z"), ("thing", "Ann", "nothing"), ("thing", "Bob", "a"), ("tied", "Bob", "q", "Ann"),
                     ("tied", "Ann", "q", "Bob"), ("every", deep(24), deep(24, "d")), ("no", deep(24), deep(24, "d")))

    def test_a_thing_that_only_the_question_names(self):
        for pairs in self.CLASHES:
            self.yes(pairs, ("thing", "Zed", "z"), ("thing", "Zed", "anything"), ("thing", "Zed", "nothing"),
                     ("tied", "Zed", "r", "Yan"), ("tied", "Ann", "r", "Zed"), ("tied", "Zed", "r", "Ann"), ("tied", "Zed", "r", "Zed"))

    def test_such_a_thing_where_a_world_is_left(self):
        for pairs in [[], numbered(("thing", "Ann", "a"), ("every", "anything", "b"), ("tied", "Ann", "r", "Bob"))]:
            self.no(pairs, ("thing", "Zed", "z"), ("thing", "Zed", "b"), ("thing", "Zed", "anything"), ("thing", "Zed", "nothing"),
                    ("tied", "Zed", "r", "Yan"), ("tied", "Ann", "r", "Zed"), ("tied", "Zed", "r", "Ann"), ("tied", "Zed", "r", "Zed"))
        self.yes(numbered(("tied", "Ann", "r", "Bob")), ("thing", "Bob", "anything"), ("thing", "Ann", "anything"))

    def test_a_kind_that_is_nothing_is_no_clash(self):
        pairs = numbered(("every", "a", "nothing"), ("thing", "Ann", "b"))
        self.no(pairs, ("every", "b", "c"), ("thing", "Ann", "c"), ("thing", "Zed", "a"), ("every", ("both", "b", "c"), "d"))


class Bounds(Asked):
    def test_kinds_that_no_saying_has(self):
        pairs = numbered(("every", "a", "d"), ("every", "b", "e"), ("within", "r", "s"))
        for form in ["some", "both", "mixed"]:
            for many in [1, 2, 23, 24]:
                one = deep(many, "a", "r", form)
                self.yes(pairs, ("every", one, one), ("every", one, deep(many, "d", "s", form)), ("every", one, deep(many, "anything", "s", form)))
                self.no(pairs, ("every", one, deep(many, "f", "r", form)), ("no", one, deep(many, "d", "r", form)),
                        ("thing", "Ann", one), ("every", deep(many, "d", "r", form), one))

    def test_a_thing_and_a_kind_of_twenty_four_tuples(self):
        pairs = numbered(("thing", "Ann", "a"), ("thing", "Ann", "b"), ("thing", "Ann", "c"), ("tied", "Ann", "r", "Ann"))
        self.yes(pairs, ("thing", "Ann", deep(24)), ("thing", "Ann", deep(24, "c")))
        self.no(pairs, ("thing", "Ann", deep(24, "d")), ("thing", "Ann", deep(24, "a", "s")))

    def test_sixty_sayings_with_two_hundred_tuples(self):
        names = ["k" + letter for letter in "abcdefgh"]
        rows = []
        for one, other in zip(names, names[1:] + names[:1]):
            rows.append(("every", one, deep(24, other, "r", "some")))
        rows += [("every", ("some", "s", "a"), "l" + letter) for letter in "abcdefgh"]
        rows += [("makes", "r", "r", "r"), ("within", "r", "s")]
        rows += [("every", "m" + chr(97 + at), "m" + chr(98 + at)) for at in range(20)]
        rows += [("thing", "T" + chr(97 + at), "m" + chr(97 + at)) for at in range(20)] + [("every", "mu", "ka"), ("every", "kd", "a")]
        self.assertEqual(len(rows), 60)
        pairs = numbered(*rows)
        self.yes(pairs, ("thing", "Ta", "lh"), ("every", "mc", ("some", "s", ("some", "r", "kh"))))
        self.no(pairs, ("thing", "Ta", ("some", "s", "b")))


class Asker(Asked):
    def test_what_is_told_is_the_askers_own(self):
        pairs = numbered(("every", "a", ("some", "r", "b")), ("thing", "Ann", "a"), ("every", "c", "nothing"), ("tied", "Ann", "s", "Bob"))
        for question in [("thing", "Ann", ("some", "r", "b")), ("every", "c", "d"), ("every", "b", "a"), ("thing", "Bob", "a")]:
            before = copy.deepcopy(pairs)
            wanted = copy.deepcopy(answer(pairs, question))
            told = answer(pairs, question)[1]
            if isinstance(told, list):
                for step in told:
                    step[2].append(9)
                told.clear()
            else:
                for table in told[1:3]:
                    for part in table.values():
                        part.append(9)
                for table in told[1:]:
                    table.clear()
            self.assertEqual(answer(pairs, question), wanted)
            self.assertEqual(pairs, before)


class Drawn(Asked):
    def test_drawn_sayings_and_questions(self):
        source = random.Random(2323)
        found = {}
        for turn in range(700):
            pairs = drawn_pairs(source, 7)
            for at in range(3):
                question = drawn_question(source, things=["Ann", "Bob", "Zed"])
                key = (question[0], self.tell(pairs, question))
                found[key] = found.get(key, 0) + 1
        for form in ["every", "no", "thing", "tied"]:
            for told in [True, False]:
                self.assertGreater(found.get((form, told), 0), 30, (form, told))

    def test_drawn_sayings_that_leave_worlds(self):
        # Without "nothing" and "no" there is no clash, so what follows does so by the other rules.
        source = random.Random(2324)
        kinds = [kind for kind in KINDS if kind != "nothing"]
        rules = {}
        for turn in range(400):
            pairs = [pair for pair in drawn_pairs(source, 10, kinds=kinds, ties=["r", "s"]) if pair[1][0] != "no"]
            for at in range(3):
                question = drawn_question(source, kinds, ["r", "s"])
                if self.tell(pairs, question):
                    for step in answer(pairs, question)[1]:
                        rules[step[1]] = rules.get(step[1], 0) + 1
        for rule in ["self", "all", "thing", "tied", "every", "first", "second", "some", "within", "both", "tie", "makes"]:
            self.assertGreater(rules.get(rule, 0), 0, rule)
        self.assertFalse({"void", "clash", "none", "no"} & set(rules))


if __name__ == "__main__":
    unittest.main()
