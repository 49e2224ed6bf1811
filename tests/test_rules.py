"""Points [14] to [17]: whether a step is right, and whether a list of steps stands."""

import copy
import random
import unittest

from kinwords.rules import right, stands
from kinwords.worlds import broken, members

RULES = ["self", "all", "thing", "tied", "every", "first", "second", "some", "within",
         "no", "both", "tie", "none", "makes"]
NO_RULES = ["void", "clash", "", " ", "Self", "self ", "every C", "is", "has", "same", "three", "start"]

# Numbers are not one behind the other, and 0 and 1 name no saying.
PAIRS = [
    (2, ("every", "c", "d")),
    (3, ("every", "d", "c")),
    (5, ("every", "c", "e")),
    (6, ("every", ("both", "c", "d"), ("some", "r", "c"))),
    (8, ("every", ("both", "d", "c"), "e")),
    (9, ("no", "c", "d")),
    (11, ("no", "d", "c")),
    (12, ("no", "e", "e")),
    (14, ("thing", "Ann", "c")),
    (15, ("thing", "Bob", "c")),
    (17, ("thing", "Ann", ("both", "c", "d"))),
    (18, ("tied", "Ann", "r", "Bob")),
    (20, ("tied", "Bob", "r", "Ann")),
    (21, ("tied", "Ann", "s", "Bob")),
    (23, ("within", "r", "s")),
    (24, ("within", "s", "r")),
    (26, ("within", "c", "d")),
    (27, ("makes", "r", "s", "t")),
    (29, ("makes", "s", "r", "t")),
    (30, ("makes", "r", "t", "s")),
    (33, ("makes", "c", "c", "d")),
    (60, ("tied", "Eve", "t", "Fay")),
]

FILLER = ("is", "fill", "in")


def cases():
    """Rows (rule, earlier facts, number, fact) that are right."""
    rows = [
        ("thing", [], 14, ("is", "Ann", "c")),
        ("thing", [], 15, ("is", "Bob", "c")),
        ("thing", [], 17, ("is", "Ann", ("both", "c", "d"))),
        ("tied", [], 18, ("has", "Ann", "r", "Bob")),
        ("tied", [], 20, ("has", "Bob", "r", "Ann")),
        ("tied", [], 60, ("has", "Eve", "t", "Fay")),
        ("all", [], None, ("is", "Ann", "anything")),
        ("all", [], None, ("is", "Fay", "anything")),
    ]
    for x in ["dog", "nothing", ("both", "dog", "cat"), ("some", "t", "dog")]:
        rows.append(("self", [], None, ("is", x, x)))
        rows.append(("all", [], None, ("is", x, "anything")))
    for x in ["Ann", "Zoe", "dog", ("some", "t", ("both", "dog", "cat"))]:
        rows.extend(cases_of(x))
    return rows


def cases_of(x):
    whole = ("both", "c", "d")
    rows = [
        ("every", [("is", x, "c")], 2, ("is", x, "d")),
        ("every", [("is", x, whole)], 6, ("is", x, ("some", "r", "c"))),
        ("first", [("is", x, whole)], None, ("is", x, "c")),
        ("second", [("is", x, whole)], None, ("is", x, "d")),
        ("first", [("is", x, ("both", whole, "e"))], None, ("is", x, whole)),
        ("second", [("is", x, ("both", "e", whole))], None, ("is", x, whole)),
        ("some", [("is", x, ("some", "r", "c"))], None, ("has", x, "r", "c")),
        ("some", [("is", x, ("some", "r", whole))], None, ("has", x, "r", whole)),
        ("some", [("is", x, ("some", "r", "nothing"))], None, ("has", x, "r", "nothing")),
        ("no", [("is", x, "c"), ("is", x, "d")], 9, ("is", x, "nothing")),
        ("both", [("is", x, "c"), ("is", x, "d")], None, ("is", x, whole)),
        ("both", [("is", x, whole), ("is", x, "e")], None, ("is", x, ("both", whole, "e"))),
    ]
    for y in ["Bob", "Yan", "cat", ("both", "cat", "d")]:
        rows.append(("within", [("has", x, "r", y)], 23, ("has", x, "s", y)))
        rows.append(("tie", [("has", x, "r", y), ("is", y, "c")], None, ("is", x, ("some", "r", "c"))))
        rows.append(("tie", [("has", x, "r", y), ("is", y, whole)], None, ("is", x, ("some", "r", whole))))
        rows.append(("none", [("has", x, "r", y), ("is", y, "nothing")], None, ("is", x, "nothing")))
        for z in ["Eve", "Zed", "pet", ("some", "s", "pet")]:
            rows.append(("makes", [("has", x, "r", y), ("has", y, "s", z)], 27, ("has", x, "t", z)))
    return rows


def laid_out(earlier, step):
    """A list with the step among others, and its place; the froms fit to the place of the earlier facts."""
    steps = [(FILLER, "none", [7], 3)]
    for fact in earlier:
        steps.append((fact, "", [], None))
        steps.append((FILLER, "", [-1], None))
    at = len(steps)
    steps.append(step)
    for fact in earlier:
        steps.append((fact, "", [], None))
    return steps, at


def places(earlier):
    return [1 + 2 * at for at in range(len(earlier))]


class Case(unittest.TestCase):
    def tell(self, earlier, step, wanted, pairs=PAIRS):
        steps, at = laid_out(earlier, step)
        self.assertIs(right(steps, at, pairs), wanted, (earlier, step))


class EachRule(Case):
    def test_right_steps(self):
        rows = cases()
        self.assertEqual({row[0] for row in rows}, set(RULES))
        for rule, earlier, number, fact in rows:
            self.tell(earlier, (fact, rule, places(earlier), number), True)

    def test_another_rule_and_no_rule(self):
        for rule, earlier, number, fact in cases():
            for other in RULES + NO_RULES:
                if other != rule:
                    self.tell(earlier, (fact, other, places(earlier), number), False)
                    self.tell(earlier, (fact, other, places(earlier), None), False)

    def test_one_from_too_many(self):
        for rule, earlier, number, fact in cases():
            froms = places(earlier)
            for extra in [0, 1, len(earlier) * 2]:
                self.tell(earlier, (fact, rule, froms + [extra], number), False)
                self.tell(earlier, (fact, rule, [extra] + froms, number), False)
            self.tell(earlier, (fact, rule, froms + froms + [0], number), False)
            if froms:
                self.tell(earlier, (fact, rule, froms + froms, number), False)

    def test_one_from_too_few(self):
        for rule, earlier, number, fact in cases():
            froms = places(earlier)
            for at in range(len(froms)):
                self.tell(earlier, (fact, rule, froms[:at] + froms[at + 1:], number), False)
            if froms:
                self.tell(earlier, (fact, rule, [], number), False)

    def test_froms_the_other_way_round(self):
        for rule, earlier, number, fact in cases():
            if len(earlier) == 2:
                self.tell(earlier, (fact, rule, [3, 1], number), False)

    def test_one_from_twice_where_it_does_not_fit(self):
        for rule, earlier, number, fact in cases():
            if len(earlier) == 2:
                self.tell(earlier, (fact, rule, [1, 1], number), False)
                self.tell(earlier, (fact, rule, [3, 3], number), False)

    def test_froms_that_name_no_earlier_step(self):
        for rule, earlier, number, fact in cases():
            froms = places(earlier)
            at = 1 + 2 * len(earlier)
            length = at + 1 + len(earlier)
            for place in range(len(froms)):
                # Behind the step itself stand the same facts once more; from
                # the list's end these would be counted by numbers below 0.
                for wrong in [-1, -2, froms[place] - length, at, at + 1, at + 1 + place, length, length + 5, 10 ** 30,
                              -10 ** 30]:
                    spoiled = froms[:place] + [wrong] + froms[place + 1:]
                    self.tell(earlier, (fact, rule, spoiled, number), False)

    def test_a_from_that_names_another_step(self):
        for rule, earlier, number, fact in cases():
            froms = places(earlier)
            for place in range(len(froms)):
                for wrong in [0, 2]:
                    self.tell(earlier, (fact, rule, froms[:place] + [wrong] + froms[place + 1:], number), False)

    def test_a_step_that_names_itself_or_a_later_one(self):
        same = ("is", "dog", "nothing")
        steps = [(same, "no", [0, 0], 12), (("is", "dog", "e"), "", [], None)]
        self.assertIs(right(steps, 0, PAIRS), False)
        steps = [(same, "no", [1, 1], 12), (("is", "dog", "e"), "", [], None)]
        self.assertIs(right(steps, 0, PAIRS), False)
        loop = [(("is", "dog", "d"), "every", [1], 2), (("is", "dog", "c"), "every", [0], 3)]
        self.assertIs(right(loop, 0, PAIRS), False)
        self.assertIs(right(loop, 1, PAIRS), True)
        self.assertIs(stands(loop, PAIRS), False)
        loop = [(("has", "dog", "t", "dog"), "makes", [0, 0], 1)]
        self.assertIs(right(loop, 0, [(1, ("makes", "t", "t", "t"))]), False)
        loop = [(("has", "dog", "t", "dog"), "within", [0], 1)]
        self.assertIs(right(loop, 0, [(1, ("within", "t", "t"))]), False)

    def test_a_number_where_none_is_due(self):
        for rule, earlier, number, fact in cases():
            if number is None:
                for wrong in [-1, 0, 1] + [other for other, saying in PAIRS]:
                    self.tell(earlier, (fact, rule, places(earlier), wrong), False)

    def test_none_where_a_number_is_due(self):
        for rule, earlier, number, fact in cases():
            if number is not None:
                self.tell(earlier, (fact, rule, places(earlier), None), False)

    def test_a_number_that_no_saying_has_or_another_one(self):
        for rule, earlier, number, fact in cases():
            if number is not None:
                for wrong in [-number, -1, 0, 1, 4, 22, 61, 10 ** 30] + [other for other, saying in PAIRS]:
                    if wrong != number:
                        self.tell(earlier, (fact, rule, places(earlier), wrong), False)

    def test_without_the_saying(self):
        for rule, earlier, number, fact in cases():
            if number is not None:
                less = [pair for pair in PAIRS if pair[0] != number]
                self.tell(earlier, (fact, rule, places(earlier), number), False, less)
                self.tell(earlier, (fact, rule, places(earlier), number), False, [])

    def test_numbers_count_not_places(self):
        for rule, earlier, number, fact in cases():
            if number is not None:
                saying = dict(PAIRS)[number]
                self.tell(earlier, (fact, rule, places(earlier), 7), True, [(7, saying)])
                self.tell(earlier, (fact, rule, places(earlier), 1), False, [(7, saying)])
                self.tell(earlier, (fact, rule, places(earlier), 0), False, [(7, saying)])

    def test_two_sayings_that_are_alike(self):
        pairs = [(4, ("every", "c", "d")), (9, ("every", "c", "d"))]
        for number, wanted in [(4, True), (9, True), (5, False), (1, False)]:
            self.tell([("is", "dog", "c")], (("is", "dog", "d"), "every", [1], number), wanted, pairs)

    def test_truths_are_no_whole_numbers(self):
        pairs = [(1, ("every", "c", "d"))]
        self.tell([("is", "dog", "c")], (("is", "dog", "d"), "every", [1], 1), True, pairs)
        self.tell([("is", "dog", "c")], (("is", "dog", "d"), "every", [1], True), False, pairs)
        self.tell([("is", "dog", "c")], (("is", "dog", "d"), "every", [True], 1), False, pairs)
        steps = [(("is", "dog", "c"), "", [], None), (("is", "dog", "d"), "every", [False], 1)]
        self.assertIs(right(steps, 1, pairs), False)


def other_kinds(kind):
    """Kinds that are not this one, some of them much like it."""
    found = ["c", "d", "e", "dog", "anything", "nothing", ("both", kind, kind), ("both", kind, "anything"),
             ("some", "r", kind), ("some", "q", "c"), ("both", "d", "c"), ("both", "c", "d")]
    if kind[0] == "both":
        found.extend([("both", kind[2], kind[1]), ("both", kind[1], kind), kind[1], kind[2],
                      ("both", kind[1], ("both", kind[2], kind[2]))])
    if kind[0] == "some":
        found.extend([("some", "q", kind[2]), ("some", kind[1], ("both", kind[2], kind[2])), kind[2]])
    return [other for other in found if other != kind]


def other_stand_ins(x):
    return [other for other in ["Ann", "Bob", "Eve", "Nob", "dog", "c", "cat", "anything", "nothing",
                                ("both", "dog", "cat"), ("both", "cat", "dog")] if other != x]


def other_facts(fact):
    """Facts that differ in one part, or in all."""
    if fact[0] == "is":
        found = [("is", x, fact[2]) for x in other_stand_ins(fact[1])]
        found.extend([("is", fact[1], kind) for kind in other_kinds(fact[2])])
        found.append(("has", fact[1], "r", fact[2]))
        return found
    found = [("has", x, fact[2], fact[3]) for x in other_stand_ins(fact[1])]
    found.extend([("has", fact[1], tie, fact[3]) for tie in ["r", "s", "t", "q", "c"] if tie != fact[2]])
    found.extend([("has", fact[1], fact[2], y) for y in other_stand_ins(fact[3])])
    if fact[1] != fact[3]:
        found.append(("has", fact[3], fact[2], fact[1]))
    found.extend([("is", fact[1], "c"), ("is", fact[1], ("some", fact[2], "c"))])
    return found


def free(rule, fact):
    """Whether this fact is right by "self" or "all" of whatever it is about."""
    if rule == "self":
        return fact[0] == "is" and fact[1] == fact[2]
    return rule == "all" and fact[0] == "is" and fact[2] == "anything" and fact[1] != "Nob"


def still_fits(rule, at, known, other):
    """Whether a rule gives the same from the other fact: it asks nothing of that which differs."""
    if rule in ("first", "second") and other[:2] == known[:2] and other[2][0] == "both":
        half = 1 if rule == "first" else 2
        return other[2][half] == known[2][half]
    return rule == "none" and at == 0 and other[0] == "has" and other[1] == known[1] and other[3] == known[3]


class Spoiled(Case):
    def test_another_fact(self):
        for rule, earlier, number, fact in cases():
            for other in other_facts(fact):
                if not free(rule, other):
                    self.tell(earlier, (other, rule, places(earlier), number), False)

    def test_another_earlier_fact(self):
        for rule, earlier, number, fact in cases():
            for at, known in enumerate(earlier):
                for other in other_facts(known):
                    spoiled = earlier[:at] + [other] + earlier[at + 1:]
                    self.tell(spoiled, (fact, rule, places(earlier), number), still_fits(rule, at, known, other))

    def test_the_middle_stand_in_counts(self):
        for y, z in [("Bob", "Eve"), ("cat", "Bob"), ("cat", ("both", "cat", "cat")),
                     (("both", "a", "b"), ("both", "b", "a"))]:
            one = ("has", "dog", "r", y)
            self.tell([one, ("is", z, "c")], (("is", "dog", ("some", "r", "c")), "tie", [1, 3], None), False)
            self.tell([one, ("is", z, "nothing")], (("is", "dog", "nothing"), "none", [1, 3], None), False)
            self.tell([one, ("has", z, "s", "pet")], (("has", "dog", "t", "pet"), "makes", [1, 3], 27), False)

    def test_the_parts_of_a_saying_turned(self):
        turned = [
            (("thing", [], 1, ("is", "Ann", "c")), [("thing", "Bob", "c"), ("thing", "Ann", "d"), ("no", "c", "c")]),
            (("tied", [], 1, ("has", "Ann", "r", "Bob")),
             [("tied", "Bob", "r", "Ann"), ("tied", "Ann", "s", "Bob"), ("tied", "Ann", "r", "Ann"),
              ("thing", "Ann", ("some", "r", "c"))]),
            (("every", [("is", "x", "c")], 1, ("is", "x", "d")),
             [("every", "d", "c"), ("every", "c", "c"), ("every", "d", "d"), ("no", "c", "d"), ("within", "c", "d"),
              ("thing", "Ann", "d"), ("every", ("both", "c", "c"), "d"), ("every", "c", ("both", "d", "d"))]),
            (("within", [("has", "x", "r", "y")], 1, ("has", "x", "s", "y")),
             [("within", "s", "r"), ("within", "r", "r"), ("within", "s", "s"), ("every", "r", "s"),
              ("makes", "r", "r", "s"), ("tied", "Ann", "s", "Bob")]),
            (("no", [("is", "x", "c"), ("is", "x", "d")], 1, ("is", "x", "nothing")),
             [("no", "d", "c"), ("no", "c", "c"), ("no", "d", "d"), ("every", "c", "d"),
              ("every", ("both", "c", "d"), "nothing"), ("no", ("both", "c", "d"), "anything")]),
            (("makes", [("has", "x", "r", "y"), ("has", "y", "s", "z")], 1, ("has", "x", "t", "z")),
             [("makes", "s", "r", "t"), ("makes", "r", "t", "s"), ("makes", "t", "s", "r"), ("makes", "r", "r", "t"),
              ("makes", "s", "s", "t"), ("makes", "r", "s", "s"), ("within", "r", "t")]),
        ]
        straight = [("thing", "Ann", "c"), ("tied", "Ann", "r", "Bob"), ("every", "c", "d"), ("within", "r", "s"),
                    ("no", "c", "d"), ("makes", "r", "s", "t")]
        for (row, wrong), saying in zip(turned, straight):
            rule, earlier, number, fact = row
            self.tell(earlier, (fact, rule, places(earlier), number), True, [(1, saying)])
            for other in wrong:
                self.tell(earlier, (fact, rule, places(earlier), number), False, [(1, other)])
                # The right saying under another number does not help.
                self.tell(earlier, (fact, rule, places(earlier), number), False, [(1, other), (2, saying)])

    def test_order_and_doubling_count(self):
        one, two = ("both", "a", "b"), ("both", "b", "a")
        pairs = [(1, ("every", one, "c")), (2, ("no", one, two)), (3, ("thing", "Ann", one)), (4, ("no", "a", one))]
        self.tell([("is", "x", one)], (("is", "x", "c"), "every", [1], 1), True, pairs)
        self.tell([("is", "x", two)], (("is", "x", "c"), "every", [1], 1), False, pairs)
        self.tell([("is", "x", ("both", one, one))], (("is", "x", "c"), "every", [1], 1), False, pairs)
        self.tell([], (("is", "Ann", one), "thing", [], 3), True, pairs)
        self.tell([], (("is", "Ann", two), "thing", [], 3), False, pairs)
        self.tell([("is", "x", one), ("is", "x", two)], (("is", "x", "nothing"), "no", [1, 3], 2), True, pairs)
        self.tell([("is", "x", two), ("is", "x", one)], (("is", "x", "nothing"), "no", [1, 3], 2), False, pairs)
        self.tell([("is", "x", one)], (("is", "x", "nothing"), "no", [1, 1], 2), False, pairs)
        self.tell([("is", one, "a"), ("is", two, "b")], (("is", one, one), "both", [1, 3], None), False, pairs)
        self.tell([("has", "x", "r", one), ("is", two, "c")], (("is", "x", ("some", "r", "c")), "tie", [1, 3], None),
                  False, pairs)
        self.tell([], (("is", one, two), "self", [], None), False, pairs)
        self.tell([], (("is", "a", ("both", "a", "a")), "self", [], None), False, pairs)

    def test_one_step_named_twice_where_two_are_due(self):
        pairs = [(1, ("no", "c", "c")), (2, ("makes", "r", "r", "t")), (3, ("no", "c", "d"))]
        self.tell([("is", "x", "c")], (("is", "x", "nothing"), "no", [1, 1], 1), True, pairs)
        self.tell([("is", "x", "c")], (("is", "x", "nothing"), "no", [1], 1), False, pairs)
        self.tell([("is", "x", "c")], (("is", "x", "nothing"), "no", [1, 1], 3), False, pairs)
        self.tell([("is", "x", "c")], (("is", "x", ("both", "c", "c")), "both", [1, 1], None), True, pairs)
        self.tell([("is", "x", "c")], (("is", "x", ("both", "c", "c")), "both", [1], None), False, pairs)
        self.tell([("has", "Ann", "r", "Ann")], (("has", "Ann", "t", "Ann"), "makes", [1, 1], 2), True, pairs)
        self.tell([("has", "x", "r", "x")], (("has", "x", "t", "x"), "makes", [1, 1], 2), True, pairs)
        self.tell([("has", "Ann", "r", "Bob")], (("has", "Ann", "t", "Bob"), "makes", [1, 1], 2), False, pairs)

    def test_the_same_fact_told_by_two_steps(self):
        pairs = [(1, ("no", "c", "c"))]
        self.tell([("is", "x", "c"), ("is", "x", "c")], (("is", "x", "nothing"), "no", [1, 3], 1), True, pairs)
        self.tell([("is", "x", "c"), ("is", "x", "c")], (("is", "x", "nothing"), "no", [3, 1], 1), True, pairs)

    def test_one_word_as_kind_and_tie(self):
        pairs = [(1, ("every", "c", "d")), (2, ("within", "c", "d")), (3, ("makes", "c", "c", "c"))]
        self.tell([("has", "c", "c", "c")], (("has", "c", "d", "c"), "within", [1], 2), True, pairs)
        self.tell([("has", "c", "c", "c")], (("has", "c", "d", "c"), "every", [1], 1), False, pairs)
        self.tell([("is", "c", "c")], (("is", "c", "d"), "every", [1], 1), True, pairs)
        self.tell([("is", "c", "c")], (("is", "c", "d"), "within", [1], 2), False, pairs)
        self.tell([("is", "c", ("some", "c", "c"))], (("has", "c", "c", "c"), "some", [1], None), True, pairs)
        self.tell([("has", "c", "c", "c"), ("is", "c", "c")], (("is", "c", ("some", "c", "c")), "tie", [1, 3], None),
                  True, pairs)
        self.tell([("has", "c", "c", "c")], (("has", "c", "c", "c"), "makes", [1, 1], 3), True, pairs)
        self.tell([("has", "c", "c", "c")], (("has", "d", "c", "c"), "makes", [1, 1], 3), False, pairs)

    def test_a_some_is_no_both_and_a_both_is_no_some(self):
        for x in ["Ann", "dog"]:
            some, both = ("is", x, ("some", "c", "d")), ("is", x, ("both", "c", "d"))
            self.tell([some], (("is", x, "c"), "first", [1], None), False)
            self.tell([some], (("is", x, "d"), "second", [1], None), False)
            self.tell([both], (("has", x, "c", "d"), "some", [1], None), False)
            self.tell([both], (("is", x, "c"), "first", [1], None), True)
            self.tell([both], (("is", x, "d"), "second", [1], None), True)
            self.tell([some], (("has", x, "c", "d"), "some", [1], None), True)

    def test_what_is_had_is_not_what_it_is(self):
        # Words that are kinds and ties, so that facts of the wrong sort would give facts that can be told.
        pairs = [(1, ("makes", "c", "c", "c")), (2, ("no", "c", "c")), (3, ("every", "c", "c")),
                 (4, ("within", "c", "c"))]
        has, own = ("has", "c", "c", "c"), ("is", "c", "c")
        fitting = {"every": [own], "within": [has], "no": [own, own], "both": [own, own], "tie": [has, own],
                   "none": [has, ("is", "c", "nothing")], "makes": [has, has]}
        numbers = {"every": 3, "within": 4, "no": 2, "makes": 1}
        facts = [has, own, ("is", "c", "nothing"), ("is", "c", ("both", "c", "c")), ("is", "c", ("some", "c", "c"))]
        made = {"every": own, "within": has, "no": facts[2], "both": facts[3], "tie": facts[4], "none": facts[2],
                "makes": has}
        for rule, wanted in fitting.items():
            for one in facts[:3]:
                for other in facts[:3]:
                    earlier = [one, other][:len(wanted)]
                    for fact in facts:
                        step = (fact, rule, places(earlier), numbers.get(rule))
                        self.tell(earlier, step, fact == made[rule] and earlier == wanted, pairs)

    def test_all_of_things(self):
        pairs = [(1, ("thing", "Ann", "c")), (2, ("tied", "Bob", "r", "Eve"))]
        for thing in ["Ann", "Bob", "Eve"]:
            self.tell([], (("is", thing, "anything"), "all", [], None), True, pairs)
            self.tell([], (("is", thing, "anything"), "all", [], None), False, [])
        for thing in ["Zoe", "An", "Anna", "R", "C"]:
            self.tell([], (("is", thing, "anything"), "all", [], None), False, pairs)
            # That an earlier step names the thing is not enough.
            self.tell([("is", thing, "c")], (("is", thing, "anything"), "all", [], None), False, pairs)

    def test_self_and_all_of_kinds_in_no_saying(self):
        deep = "a"
        for at in range(49):
            deep = ("some", "r", deep) if at % 3 else ("both", deep, "b")
        for kind in ["zebra", "anything", "nothing", ("both", "zebra", "zebra"), ("some", "zz", "nothing"), deep]:
            for pairs in [[], PAIRS]:
                self.tell([], (("is", kind, kind), "self", [], None), True, pairs)
                self.tell([], (("is", kind, "anything"), "all", [], None), True, pairs)

    def test_self_and_all_have_no_other_facts(self):
        for rule in ["self", "all"]:
            for fact in [("has", "a", "r", "a"), ("has", "a", "s", "a"), ("is", "a", "b"), ("is", "anything", "a"),
                         ("has", "Ann", "r", "Ann"), ("is", "Ann", "c"), ("has", "a", "r", "anything")]:
                self.tell([], (fact, rule, [], None), False)

    def test_void_and_clash_are_no_rules_here(self):
        for x in ["Ann", "dog"]:
            for fact in [("is", x, "c"), ("is", x, "nothing"), ("has", x, "r", "Bob"), ("is", "other", "c")]:
                for rule in ["void", "clash"]:
                    for froms in [[], [1], [1, 1]]:
                        self.tell([("is", x, "nothing")], (fact, rule, froms, None), False)

    def test_nothing_follows_by_other_ways(self):
        # These are true in each world, but no rule gives them in one step.
        self.tell([("is", "a", "nothing")], (("is", "a", "c"), "every", [1], 2), False)
        self.tell([("is", "a", "c")], (("is", "a", ("both", "c", "anything")), "both", [1, 1], None), False)
        self.tell([("is", "a", ("some", "r", "c"))], (("is", "a", ("some", "r", "anything")), "some", [1], None), False)

    def test_an_earlier_step_need_not_be_right(self):
        steps = [(("is", "a", "c"), "self", [9], 4), (("is", "a", "d"), "every", [0], 2)]
        self.assertIs(right(steps, 0, PAIRS), False)
        self.assertIs(right(steps, 1, PAIRS), True)
        self.assertIs(stands(steps, PAIRS), False)


GOOD = [
    (("is", "Ann", "c"), "thing", [], 14),
    (("is", "Ann", "d"), "every", [0], 2),
    (("is", "Ann", ("both", "c", "d")), "both", [0, 1], None),
    (("is", "Ann", ("some", "r", "c")), "every", [2], 6),
    (("has", "Ann", "r", "c"), "some", [3], None),
    (("is", "c", "c"), "self", [], None),
    (("is", "c", "d"), "every", [5], 2),
    (("is", "c", "nothing"), "no", [5, 6], 9),
    (("is", "Ann", "nothing"), "none", [4, 7], None),
    (("has", "Ann", "s", "c"), "within", [4], 23),
    (("is", "Ann", ("some", "s", "d")), "tie", [9, 6], None),
    (("has", "Ann", "r", "Bob"), "tied", [], 18),
    (("has", "Bob", "r", "Ann"), "tied", [], 20),
    (("has", "Bob", "s", "Ann"), "within", [12], 23),
    (("has", "Ann", "t", "Ann"), "makes", [11, 13], 27),
    (("is", "Fay", "anything"), "all", [], None),
    (("is", "Ann", "c"), "first", [2], None),
    (("is", "Ann", "d"), "second", [2], None),
]


class Stands(unittest.TestCase):
    def test_the_empty_list(self):
        self.assertIs(stands([], PAIRS), True)
        self.assertIs(stands([], []), True)

    def test_a_list_of_all_rules(self):
        self.assertEqual({step[1] for step in GOOD}, set(RULES))
        self.assertIs(stands(GOOD, PAIRS), True)
        for many in range(len(GOOD)):
            self.assertIs(stands(GOOD[:many], PAIRS), True)
            self.assertIs(right(GOOD, many, PAIRS), True)

    def test_one_wrong_step_anywhere(self):
        for at, (fact, rule, froms, number) in enumerate(GOOD):
            for step in [(fact, "void", froms, number), (fact, rule, froms + [0], number), (fact, rule, froms, 1),
                         (("is", "zebra", "c"), rule, froms, number)]:
                steps = GOOD[:at] + [step] + GOOD[at + 1:]
                self.assertIs(stands(steps, PAIRS), False)
                self.assertIs(right(steps, at, PAIRS), False)

    def test_a_wrong_step_of_which_nothing_hangs(self):
        wrong = (("is", "zebra", "c"), "self", [], None)
        for at in [0, 8, len(GOOD)]:
            # The froms behind the wrong step are moved by one.
            behind = [(fact, rule, [origin + (origin >= at) for origin in froms], number)
                      for fact, rule, froms, number in GOOD[at:]]
            fine = (("is", "zebra", "zebra"), "self", [], None)
            self.assertIs(stands(GOOD[:at] + [fine] + behind, PAIRS), True)
            self.assertIs(stands(GOOD[:at] + [wrong] + behind, PAIRS), False)

    def test_without_one_saying(self):
        used = {step[3] for step in GOOD if step[3] is not None}
        for number, saying in PAIRS:
            less = [pair for pair in PAIRS if pair[0] != number]
            # Of Fay only the last saying tells.
            wanted = number not in used and number != 60
            self.assertIs(stands(GOOD, less), wanted, number)

    def test_a_fact_told_twice_stands(self):
        steps = [(("is", "a", "a"), "self", [], None), (("is", "a", "a"), "self", [], None)]
        self.assertIs(stands(steps, []), True)

    def test_one_step_alone(self):
        self.assertIs(stands([(("is", "a", "b"), "self", [], None)], []), False)
        self.assertIs(stands([(("is", "a", "a"), "self", [], None)], []), True)

    def test_an_order_turned(self):
        steps = [(("is", "a", "b"), "every", [1], 4), (("is", "a", "a"), "self", [], None)]
        pairs = [(4, ("every", "a", "b"))]
        self.assertIs(stands(steps, pairs), False)
        self.assertIs(stands([steps[1], (("is", "a", "b"), "every", [0], 4)], pairs), True)

    def test_many_steps(self):
        steps = [(("is", "n", "n"), "self", [], None)]
        pairs = [(3, ("every", "n", "n"))]
        for at in range(3000):
            steps.append((("is", "n", "n"), "every", [at], 3))
        self.assertIs(stands(steps, pairs), True)
        steps[1500] = (("is", "n", "n"), "every", [1500], 3)
        self.assertIs(stands(steps, pairs), False)

    def test_what_is_handed_in_is_as_it_was(self):
        for wrong in [None, 0, 8]:
            steps = copy.deepcopy(GOOD)
            if wrong is not None:
                steps[wrong] = (("is", "zebra", "c"), "every", [0, -3, 99], 7)
            pairs = copy.deepcopy(PAIRS)
            before = copy.deepcopy((steps, pairs))
            stands(steps, pairs)
            for at in range(len(steps)):
                right(steps, at, pairs)
            self.assertEqual((steps, pairs), before)


# The rules as patterns: what is taken, by which saying, and what is told; names in great letters may be anything.
PATTERNS = {
    "self": ([], None, ("is", "X", "X")),
    "all": ([], None, ("is", "X", "anything")),
    "thing": ([], ("thing", "X", "C"), ("is", "X", "C")),
    "tied": ([], ("tied", "X", "R", "Y"), ("has", "X", "R", "Y")),
    "every": ([("is", "X", "C")], ("every", "C", "D"), ("is", "X", "D")),
    "first": ([("is", "X", ("both", "C", "D"))], None, ("is", "X", "C")),
    "second": ([("is", "X", ("both", "C", "D"))], None, ("is", "X", "D")),
    "some": ([("is", "X", ("some", "R", "C"))], None, ("has", "X", "R", "C")),
    "within": ([("has", "X", "R", "Y")], ("within", "R", "S"), ("has", "X", "S", "Y")),
    "no": ([("is", "X", "C"), ("is", "X", "D")], ("no", "C", "D"), ("is", "X", "nothing")),
    "both": ([("is", "X", "C"), ("is", "X", "D")], None, ("is", "X", ("both", "C", "D"))),
    "tie": ([("has", "X", "R", "Y"), ("is", "Y", "C")], None, ("is", "X", ("some", "R", "C"))),
    "none": ([("has", "X", "R", "Y"), ("is", "Y", "nothing")], None, ("is", "X", "nothing")),
    "makes": ([("has", "X", "R", "Y"), ("has", "Y", "S", "Z")], ("makes", "R", "S", "T"), ("has", "X", "T", "Z")),
}


def fits(pattern, value, bound):
    if isinstance(pattern, str) and pattern.isupper():
        return bound.setdefault(pattern, value) == value
    if isinstance(pattern, str) or isinstance(value, str):
        return pattern == value
    return len(pattern) == len(value) and all(fits(one, other, bound) for one, other in zip(pattern, value))


def filled(pattern, bound):
    if isinstance(pattern, str):
        return bound[pattern] if pattern.isupper() else pattern
    return tuple(filled(part, bound) for part in pattern)


def bound_by(steps, at, rule, froms, number, pairs):
    """What the names of a rule's pattern stand for, or None where steps and saying do not fit."""
    if rule not in PATTERNS:
        return None
    wanted, form, made = PATTERNS[rule]
    if len(froms) != len(wanted) or not all(origin in range(at) for origin in froms):
        return None
    bound = {}
    if form is None:
        if number is not None:
            return None
    elif not any(number == other and fits(form, saying, bound) for other, saying in pairs):
        return None
    if not all(fits(pattern, steps[origin][0], bound) for pattern, origin in zip(wanted, froms)):
        return None
    return bound


def right_by_patterns(steps, at, pairs):
    fact, rule, froms, number = steps[at]
    bound = bound_by(steps, at, rule, froms, number, pairs)
    if bound is None or not fits(PATTERNS[rule][2], fact, bound):
        return False
    about = bound["X"]
    if rule == "all" and isinstance(about, str) and about[0].isupper():
        return any(about in saying[1:] for number, saying in pairs)
    return True


KINDS = ["a", "b", "anything", "nothing", ("both", "a", "b"), ("both", "b", "a"), ("some", "r", "a")]
TIES = ["r", "a"]
THINGS = ["Ann", "Bob"]
# Few, so that facts often fit together.
ABOUT = ["a", "nothing", ("both", "a", "b"), "Ann", "Bob"]


def some_saying(source):
    kind, other = source.choice(KINDS), source.choice(KINDS)
    one, two, three = [source.choice(TIES) for at in range(3)]
    thing, second = source.choice(THINGS), source.choice(THINGS)
    return source.choice([("every", kind, other), ("no", kind, other), ("thing", thing, kind),
                          ("tied", thing, one, second), ("within", one, two), ("makes", one, two, three)])


def some_pairs(source, most):
    numbers = sorted(source.sample(range(1, 12), source.randrange(most + 1)))
    return [(number, some_saying(source)) for number in numbers]


def some_fact(source):
    x, y = source.choice(ABOUT), source.choice(ABOUT)
    return source.choice([("is", x, source.choice(KINDS)), ("has", x, source.choice(TIES), y)])


def some_froms(source, steps, wanted, bound):
    """Places of steps that fit to these patterns, where there are such, and what is bound by them."""
    froms = []
    for pattern in wanted:
        fitting = [at for at, step in enumerate(steps) if fits(pattern, step[0], dict(bound))]
        if not fitting:
            return None
        froms.append(source.choice(fitting))
        fits(pattern, steps[froms[-1]][0], bound)
    return froms


def some_step(source, steps, pairs):
    """A step that often, but not always, is right behind these."""
    rule = source.choice(RULES)
    wanted, form, made = PATTERNS[rule]
    number = source.choice([None] + [number for number, saying in pairs if saying[0] == rule] * 9)
    for turn in range(5):
        bound = {} if number is None else dict(zip(form[1:], dict(pairs)[number][1:]))
        froms = some_froms(source, steps, wanted, bound)
        if froms is not None and (number is None) == (form is None):
            bound.setdefault("X", source.choice(ABOUT[:3] if rule == "self" else ABOUT))
            return (filled(made, bound), rule, froms, number)
    return (some_fact(source), rule, [source.randrange(9) for part in wanted], number)


def spoiled(source, step):
    fact, rule, froms, number = step
    return source.choice([
        (some_fact(source), rule, froms, number),
        (fact, source.choice(RULES + NO_RULES), froms, number),
        (fact, rule, froms[::-1], number),
        (fact, rule, froms + [source.randrange(-2, 5)], number),
        (fact, rule, [origin + source.randrange(-3, 4) for origin in froms], number),
        (fact, rule, froms, source.choice([None, source.randrange(-1, 13)])),
    ])


class ByPatterns(unittest.TestCase):
    def test_random_lists(self):
        source = random.Random(17)
        found = {(rule, told): 0 for rule in RULES for told in (True, False)}
        for at in range(400):
            pairs = some_pairs(source, 10)
            steps = []
            for place in range(25):
                step = some_step(source, steps, pairs)
                steps.append(spoiled(source, step) if source.random() < 0.3 else step)
            wanted = [right_by_patterns(steps, place, pairs) for place in range(25)]
            self.assertEqual([right(steps, place, pairs) for place in range(25)], wanted)
            self.assertIs(stands(steps, pairs), all(wanted))
            for step, told in zip(steps, wanted):
                if (step[1], told) in found:
                    found[(step[1], told)] += 1
        for key, many in found.items():
            self.assertGreater(many, 20, key)


def holds(world, fact):
    """Whether a fact holds in a world."""
    starts = meant(world, fact[1])
    if starts is None:
        return False
    if fact[0] == "is":
        return set(starts) <= set(members(world, fact[2]))
    ends = meant(world, fact[3])
    pairs = world[2].get(fact[2], [])
    return all(any((start, end) in pairs for end in ends or []) for start in starts)


def meant(world, x):
    """The places that a stand-in means, or None for a thing that has none."""
    if isinstance(x, str) and x[0].isupper():
        return [world[3][x]] if x in world[3] else None
    return members(world, x)


def some_world(source):
    many = source.choice([0, 1, 1, 2, 2, 3])
    spots = list(range(many))
    kinds = {name: [spot for spot in spots if source.random() < 0.5] for name in ["a", "b"]}
    ties = {tie: [(one, other) for one in spots for other in spots if source.random() < 0.4] for tie in TIES}
    things = {thing: source.choice(spots) for thing in THINGS if spots and source.random() < 0.8}
    return (many, kinds, ties, things)


class InWorlds(unittest.TestCase):
    def test_facts_of_lists_that_stand_hold_where_the_sayings_are_kept(self):
        source = random.Random(18)
        worlds = [some_world(source) for at in range(400)]
        checked = 0
        for at in range(300):
            pairs = some_pairs(source, 4)
            steps = []
            for turn in range(40):
                step = some_step(source, steps, pairs)
                if right(steps + [step], len(steps), pairs):
                    steps.append(step)
            self.assertIs(stands(steps, pairs), True)
            for world in worlds:
                if not broken(world, [saying for number, saying in pairs]):
                    for step in steps:
                        self.assertTrue(holds(world, step[0]), (world, pairs, step))
                        checked += 1
        self.assertGreater(checked, 10000)


if __name__ == "__main__":
    unittest.main()
