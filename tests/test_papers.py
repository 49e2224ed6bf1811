"""Point [20]: the paper of a fact."""

import copy
import random
import unittest

from helper import drawn_kinds, drawn_pairs, facts_of, numbered
from kinwords.errors import KinError, NoFact
from kinwords.papers import paper
from kinwords.rules import stands
from kinwords.stills import still

STEPS = [
    (("is", "zebra", "zebra"), "self", [], None),
    (("is", "Ann", "a"), "thing", [], 4),
    (("is", "Ann", "b"), "every", [1], 7),
    (("is", "zebra", "anything"), "all", [], None),
    (("is", "Ann", ("both", "a", "b")), "both", [1, 2], None),
    (("has", "Ann", "r", "Ann"), "tied", [], 9),
    (("is", "Ann", "b"), "second", [4], None),
    (("is", "Ann", "a"), "first", [4], None),
    (("is", "Ann", ("both", "b", "a")), "both", [6, 7], None),
    (("is", "Ann", ("some", "r", ("both", "b", "a"))), "tie", [5, 8], None),
    (("is", "Ann", ("both", "b", "b")), "both", [6, 6], None),
    (("has", "Ann", "s", "Ann"), "makes", [5, 5], 12),
]
PAIRS = [(4, ("thing", "Ann", "a")), (7, ("every", "a", "b")), (9, ("tied", "Ann", "r", "Ann")),
         (12, ("makes", "r", "r", "s"))]


class Paper(unittest.TestCase):
    def test_the_steps_stand(self):
        self.assertTrue(stands(STEPS, PAIRS))

    def test_a_fact_without_froms(self):
        self.assertEqual(paper(STEPS, ("is", "zebra", "anything")), [(("is", "zebra", "anything"), "all", [], None)])
        self.assertEqual(paper(STEPS, ("has", "Ann", "r", "Ann")), [(("has", "Ann", "r", "Ann"), "tied", [], 9)])
        self.assertEqual(paper(STEPS[:1], ("is", "zebra", "zebra")), STEPS[:1])

    def test_the_first_step_with_the_fact(self):
        self.assertEqual(paper(STEPS, ("is", "Ann", "a")), [(("is", "Ann", "a"), "thing", [], 4)])
        self.assertEqual(paper(STEPS, ("is", "Ann", "b")), [
            (("is", "Ann", "a"), "thing", [], 4), (("is", "Ann", "b"), "every", [0], 7)])
        self.assertEqual(paper(STEPS[3:4] + STEPS[:1] + STEPS[3:4], ("is", "zebra", "anything")), STEPS[3:4])

    def test_the_froms_name_the_very_steps_though_others_tell_the_same(self):
        self.assertEqual(paper(STEPS, ("is", "Ann", ("both", "b", "a"))), [
            (("is", "Ann", "a"), "thing", [], 4),
            (("is", "Ann", "b"), "every", [0], 7),
            (("is", "Ann", ("both", "a", "b")), "both", [0, 1], None),
            (("is", "Ann", "b"), "second", [2], None),
            (("is", "Ann", "a"), "first", [2], None),
            (("is", "Ann", ("both", "b", "a")), "both", [3, 4], None)])

    def test_in_the_order_of_the_list(self):
        self.assertEqual(paper(STEPS, ("is", "Ann", ("some", "r", ("both", "b", "a")))), [
            (("is", "Ann", "a"), "thing", [], 4),
            (("is", "Ann", "b"), "every", [0], 7),
            (("is", "Ann", ("both", "a", "b")), "both", [0, 1], None),
            (("has", "Ann", "r", "Ann"), "tied", [], 9),
            (("is", "Ann", "b"), "second", [2], None),
            (("is", "Ann", "a"), "first", [2], None),
            (("is", "Ann", ("both", "b", "a")), "both", [4, 5], None),
            (("is", "Ann", ("some", "r", ("both", "b", "a"))), "tie", [3, 6], None)])

    def test_the_same_step_twice(self):
        self.assertEqual(paper(STEPS, ("has", "Ann", "s", "Ann")), [
            (("has", "Ann", "r", "Ann"), "tied", [], 9), (("has", "Ann", "s", "Ann"), "makes", [0, 0], 12)])
        self.assertEqual(paper(STEPS, ("is", "Ann", ("both", "b", "b")))[-1][2], [3, 3])

    def test_froms_that_do_not_rise(self):
        steps = [(("is", "a", "a"), "self", [], None), (("is", "b", "b"), "self", [], None),
                 (("is", "b", "anything"), "all", [], None),
                 (("is", "b", ("both", "anything", "b")), "both", [2, 1], None)]
        self.assertEqual(paper(steps, ("is", "b", ("both", "anything", "b"))), [
            (("is", "b", "b"), "self", [], None), (("is", "b", "anything"), "all", [], None),
            (("is", "b", ("both", "anything", "b")), "both", [1, 0], None)])

    def test_steps_that_many_need_come_once(self):
        whole = "a"
        for at in range(24):
            whole = ("both", whole, whole)
            if at == 4:
                break
        steps = still([], ["a"], [whole])
        told = paper(steps, ("is", "a", whole))
        self.assertEqual(len(told), 6)
        self.assertEqual([step[2] for step in told], [[], [0, 0], [1, 1], [2, 2], [3, 3], [4, 4]])

    def test_a_long_row_of_steps(self):
        pairs = [(3, ("every", "a", "b"))]
        steps = [(("is", "a", "a"), "self", [], None), (("is", "a", "b"), "every", [0], 3)]
        kind = "b"
        for at in range(40):
            kind = ("both", kind, "b")
            steps.append((("is", "a", kind), "both", [len(steps) - 1, 1], None))
        self.assertTrue(stands(steps, pairs))
        self.assertEqual(paper(steps, ("is", "a", kind)), steps)
        names = ["n" + chr(97 + at // 26) + chr(97 + at % 26) for at in range(60)]
        rows = numbered(*[("every", one, other) for one, other in zip(names, names[1:])])
        steps = still(rows, [names[0], "zebra", names[30]], [])
        self.assertEqual(len(paper(steps, ("is", names[0], names[-1]))), 60)


class Refused(unittest.TestCase):
    def test_a_fact_that_no_step_tells(self):
        for steps, fact in [(STEPS, ("is", "a", "Ann")), (STEPS, ("is", "Ann", ("both", "a", "a"))), ([], ("is", "a", "a")),
                            (STEPS, ("has", "Ann", "t", "Ann")), (STEPS, ("has", "zebra", "r", "zebra")),
                            (STEPS, ("is", "zebra", "a")), (STEPS[:4], ("has", "Ann", "r", "Ann"))]:
            with self.assertRaises(NoFact) as caught:
                paper(steps, fact)
            self.assertEqual(caught.exception.fact, fact)
            self.assertIsInstance(caught.exception, KinError)

    def test_what_is_refused_changes_nothing(self):
        steps = copy.deepcopy(STEPS)
        with self.assertRaises(NoFact):
            paper(steps, ("is", "zebra", "a"))
        self.assertEqual(steps, STEPS)


class Asker(unittest.TestCase):
    def test_the_handed_steps_stay(self):
        for fact in facts_of(STEPS):
            steps = copy.deepcopy(STEPS)
            told = paper(steps, fact)
            self.assertIsInstance(told, list)
            for step in told:
                self.assertIsInstance(step, tuple)
                step[2].append(99)
            told.append("spoiled")
            self.assertEqual(steps, STEPS)
            self.assertEqual(paper(steps, fact), paper(STEPS, fact))


def needed(steps, at):
    """The places needed for a place, by the plainest way."""
    found = {at}
    for origin in steps[at][2]:
        found |= needed(steps, origin)
    return found


class Drawn(unittest.TestCase):
    def test_drawn_standstills(self):
        source = random.Random(2020)
        for turn in range(150):
            pairs = drawn_pairs(source, 7)
            steps = still(pairs, drawn_kinds(source, 2), drawn_kinds(source, 2))
            for at, (fact, rule, froms, number) in enumerate(steps):
                told = paper(steps, fact)
                places = sorted(needed(steps, at))
                self.assertEqual(told, [(steps[old][0], steps[old][1], [places.index(one) for one in steps[old][2]],
                                         steps[old][3]) for old in places])
                self.assertTrue(stands(told, pairs))
                self.assertEqual(told[-1][0], fact)


if __name__ == "__main__":
    unittest.main()
