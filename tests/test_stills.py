"""Points [18] and [19]: the standstill, and going on from steps."""

import copy
import random
import unittest

from helper import all_facts, drawn_kinds, drawn_pairs, facts_of, is_thing_name, numbered
from kinwords.rules import FROMS, stands
from kinwords.stills import still

RULES = sorted(FROMS)


def chained(ties, end):
    """A kind of somes within one another."""
    kind = end
    for tie in reversed(ties):
        kind = ("some", tie, kind)
    return kind


class Asked(unittest.TestCase):
    def tell(self, pairs, starts=(), further=(), steps=None):
        """The facts of a standstill, which is found to be one by the slow way too."""
        told = still(list(pairs), list(starts), list(further), steps)
        self.assertIsInstance(told, list)
        for step in told:
            self.assertIsInstance(step, tuple)
            self.assertIsInstance(step[2], list)
        self.assertTrue(stands(told, pairs))
        facts = facts_of(told)
        self.assertEqual(len(set(facts)), len(facts))
        handed = facts_of(steps or [])
        wanted, stand_ins = all_facts(pairs, starts, further, handed)
        self.assertEqual(set(facts), wanted)
        for x in stand_ins:
            self.assertIn(("is", x, "anything"), facts)
            self.assertEqual(("is", x, x) in facts, not is_thing_name(x))
        return set(facts)

    def about(self, facts):
        return {fact[1] for fact in facts}


class StandIns(Asked):
    def test_nothing_handed_in(self):
        self.assertEqual(still([], [], []), [])
        self.assertEqual(still([], [], [], []), [])
        self.assertEqual(still([], [], [], None), [])
        self.assertEqual(still([], [], [("both", "a", "b"), "c"]), [])
        self.assertEqual(still(numbered(("every", "a", "b")), [], []), [])

    def test_self_and_all_of_a_kind(self):
        self.assertEqual(self.tell([], ["a"]), {("is", "a", "a"), ("is", "a", "anything")})
        self.assertEqual(self.tell([], ["anything"]), {("is", "anything", "anything")})
        self.assertEqual(self.tell([], ["nothing"]), {("is", "nothing", "nothing"), ("is", "nothing", "anything")})

    def test_all_alone_of_a_thing(self):
        pairs = numbered(("thing", "Ann", "a"), ("tied", "Bob", "r", "Cay"))
        self.assertEqual(self.tell(pairs), {
            ("is", "Ann", "anything"), ("is", "Ann", "a"), ("is", "Bob", "anything"), ("is", "Cay", "anything"),
            ("has", "Bob", "r", "Cay")})

    def test_a_start_and_whom_it_has(self):
        facts = self.tell([], [("some", "r", ("both", "a", ("some", "s", "b")))])
        self.assertEqual(self.about(facts), {
            ("some", "r", ("both", "a", ("some", "s", "b"))), ("both", "a", ("some", "s", "b")), "b"})

    def test_whom_they_have_step_by_step(self):
        pairs = numbered(("every", "a", ("some", "r", "b")), ("every", "b", ("some", "s", "c")),
                         ("every", "c", ("some", "t", "d")), ("every", "e", ("some", "t", "f")))
        self.assertEqual(self.about(self.tell(pairs, ["b"])), {"b", "c", "d"})
        self.assertEqual(self.about(self.tell(pairs, ["e", "c"])), {"c", "d", "e", "f"})
        self.assertEqual(self.tell(pairs), set())
        more = pairs + [(90, ("thing", "Ann", "a"))]
        self.assertEqual(self.about(self.tell(more)), {"Ann", "b", "c", "d"})

    def test_a_known_kind_is_no_stand_in_by_that(self):
        pairs = numbered(("every", ("both", "a", "b"), ("some", "r", "c")), ("no", "d", ("some", "r", "e")))
        self.assertEqual(self.about(self.tell(pairs, ["z"], ["f", ("some", "r", "g")])), {"z"})

    def test_a_start_that_is_not_known(self):
        pairs = numbered(("thing", "Ann", "a"), ("thing", "Ann", "b"), ("tied", "Ann", "r", "Ann"))
        whole = ("both", ("both", "a", "b"), ("some", "r", "a"))
        facts = self.tell(pairs, [whole])
        for kind in ["a", "b", ("both", "a", "b"), ("some", "r", "a"), whole]:
            self.assertIn(("is", whole, kind), facts)
        self.assertNotIn(("is", "Ann", ("both", "a", "b")), facts)
        self.assertNotIn(("is", "Ann", ("some", "r", "a")), facts)
        self.assertIn(("is", "Ann", whole), self.tell(pairs, [whole], [whole]))

    def test_the_same_kind_twice_among_the_starts(self):
        for kind in ["a", ("both", "a", "b"), ("some", "r", "a")]:
            self.assertEqual(self.tell([], [kind, kind]), self.tell([], [kind]))
            self.assertEqual(len(still([], [kind, "b", kind], [])), len(still([], ["b", kind], [])))

    def test_kinds_of_other_order_or_doubling_are_two(self):
        one, other, twice = ("both", "a", "b"), ("both", "b", "a"), ("both", "a", "a")
        facts = self.tell(numbered(("every", one, "c"), ("every", twice, "d")), [one, other, "a"])
        self.assertIn(("is", other, one), facts)
        self.assertIn(("is", other, "c"), facts)
        self.assertNotIn(("is", one, other), facts)
        self.assertIn(("is", "a", twice), facts)
        self.assertIn(("is", one, "d"), facts)
        self.assertEqual(self.about(facts), {one, other, "a"})
        facts = self.tell(numbered(("every", other, "c")), [("some", "r", one)], [("some", "r", other)])
        self.assertIn(("is", ("some", "r", one), ("some", "r", other)), facts)
        self.assertNotIn("a", self.about(facts))


class Rules(Asked):
    """Each rule gives its fact where what it needs is there."""

    def test_thing_and_tied(self):
        facts = self.tell(numbered(("thing", "Ann", ("some", "r", "a")), ("tied", "Ann", "s", "Ann")))
        self.assertIn(("is", "Ann", ("some", "r", "a")), facts)
        self.assertIn(("has", "Ann", "s", "Ann"), facts)

    def test_every(self):
        pairs = numbered(("every", "a", "b"), ("every", "b", "c"), ("every", "anything", "d"), ("every", "e", "f"))
        facts = self.tell(pairs, ["a"])
        self.assertEqual({fact[2] for fact in facts}, {"a", "b", "c", "d", "anything"})

    def test_every_round_about(self):
        facts = self.tell(numbered(("every", "a", "b"), ("every", "b", "a"), ("every", "a", "a")), ["a", "b"])
        self.assertIn(("is", "a", "b"), facts)
        self.assertIn(("is", "b", "a"), facts)

    def test_nothing_is_no_kind_of_every_sort(self):
        # "void" is no rule of a standstill.
        facts = self.tell(numbered(("every", "a", "nothing"), ("every", "nothing", "c")), ["a"], ["d"])
        self.assertEqual({fact[2] for fact in facts}, {"a", "anything", "nothing", "c"})

    def test_first_second_some(self):
        facts = self.tell(numbered(("every", "a", ("both", "b", ("some", "r", "c")))), ["a"])
        for fact in [("is", "a", "b"), ("is", "a", ("some", "r", "c")), ("has", "a", "r", "c")]:
            self.assertIn(fact, facts)

    def test_within(self):
        pairs = numbered(("within", "r", "s"), ("within", "s", "t"), ("tied", "Ann", "r", "Bob"))
        facts = self.tell(pairs, [("some", "s", "a")])
        for fact in [("has", "Ann", "s", "Bob"), ("has", "Ann", "t", "Bob"), ("has", ("some", "s", "a"), "t", "a")]:
            self.assertIn(fact, facts)
        self.assertNotIn(("has", ("some", "s", "a"), "r", "a"), facts)

    def test_no_in_either_order(self):
        for one, other in [("a", "b"), ("b", "a")]:
            pairs = numbered(("thing", "Ann", one), ("thing", "Ann", other), ("no", "a", "b"))
            self.assertIn(("is", "Ann", "nothing"), self.tell(pairs))
            late = numbered(("thing", "Ann", one), ("every", one, "c"), ("every", "c", "d"), ("every", "d", other),
                            ("no", "a", "b"))
            self.assertIn(("is", "Ann", "nothing"), self.tell(late))

    def test_no_of_the_same_step(self):
        self.assertIn(("is", "a", "nothing"), self.tell(numbered(("no", "a", "a")), ["a", "b"]))
        self.assertIn(("is", "a", "nothing"), self.tell(numbered(("no", "anything", "anything")), ["a"]))
        self.assertIn(("is", "a", "nothing"), self.tell(numbered(("no", "anything", "a")), ["a"]))

    def test_both_in_either_order(self):
        for one, other in [("a", "b"), ("b", "a")]:
            for first in [("every", "c", one), ("every", "c", ("both", "c", one))]:
                pairs = numbered(first, ("every", "c", "d"), ("every", "d", other))
                facts = self.tell(pairs, ["c"], [("both", "a", "b")])
                self.assertIn(("is", "c", ("both", "a", "b")), facts)
                self.assertNotIn(("is", "c", ("both", "b", "a")), facts)

    def test_both_of_the_same_step(self):
        facts = self.tell([], ["a"], [("both", ("both", "a", "a"), ("both", "a", "a"))])
        self.assertIn(("is", "a", ("both", ("both", "a", "a"), ("both", "a", "a"))), facts)
        self.assertIn(("is", "a", ("both", "anything", "anything")), self.tell([], ["a"], [("both",) + ("anything",) * 2]))

    def test_tie_where_the_tie_comes_late_and_early(self):
        late = numbered(("thing", "Bob", "a"), ("tied", "Ann", "q", "Bob"), ("within", "q", "p"), ("within", "p", "r"))
        early = numbered(("tied", "Ann", "r", "Bob"), ("thing", "Bob", "b"), ("every", "b", "c"), ("every", "c", "a"))
        for pairs in [late, early]:
            facts = self.tell(pairs, [], [("some", "r", "a")])
            self.assertIn(("is", "Ann", ("some", "r", "a")), facts)
            self.assertNotIn(("is", "Bob", ("some", "r", "a")), facts)

    def test_tie_to_itself(self):
        facts = self.tell(numbered(("tied", "Ann", "r", "Ann"), ("thing", "Ann", "a")), [],
                          [chained("rrr", "a"), chained("rr", "anything")])
        for kind in [chained("r", "a"), chained("rr", "a"), chained("rrr", "a"), chained("rr", "anything")]:
            self.assertIn(("is", "Ann", kind), facts)

    def test_none_where_nothing_comes_late_and_early(self):
        late = numbered(("tied", "Ann", "r", "Bob"), ("thing", "Bob", "b"), ("every", "b", "c"), ("every", "c", "nothing"))
        early = numbered(("thing", "Bob", "nothing"), ("thing", "Ann", "a"), ("every", "a", "b"),
                         ("every", "b", ("some", "r", "nothing")))
        for pairs in [late, early]:
            facts = self.tell(pairs)
            self.assertIn(("is", "Ann", "nothing"), facts)

    def test_nothing_carried_back_along_a_row_of_ties(self):
        for word in ["nothing", "z"]:
            pairs = numbered(("every", "a", chained("rstrst", word)), ("no", "z", "anything"), ("thing", "Ann", "a"),
                             ("tied", "Bob", "q", "Ann"), ("tied", "Ann", "q", "Cay"))
            facts = self.tell(pairs)
            for x in ["Ann", "Bob", chained("strst", word), chained("rst", word), chained("t", word), word]:
                self.assertIn(("is", x, "nothing"), facts)
            self.assertNotIn(("is", "Cay", "nothing"), facts)

    def test_makes_in_either_order(self):
        one = ("has", "Ann", "t", "Cay")
        for first, second in [("r", "q"), ("q", "r"), ("q", "q"), ("r", "r")]:
            # The tie q is r two steps later.
            pairs = numbered(("tied", "Ann", first, "Bob"), ("tied", "Bob", second, "Cay"), ("within", "q", "p"),
                             ("within", "p", "r"), ("makes", "r", "r", "t"))
            facts = self.tell(pairs)
            self.assertIn(one, facts)
            self.assertNotIn(("has", "Bob", "t", "Cay"), facts)
        pairs = numbered(("tied", "Bob", "s", "Cay"), ("tied", "Ann", "r", "Bob"), ("makes", "r", "s", "t"),
                         ("makes", "s", "r", "u"))
        facts = self.tell(pairs)
        self.assertIn(one, facts)
        self.assertFalse([fact for fact in facts if fact[0] == "has" and fact[2] == "u"])

    def test_makes_of_the_same_step(self):
        facts = self.tell(numbered(("tied", "Ann", "r", "Ann"), ("makes", "r", "r", "s")))
        self.assertIn(("has", "Ann", "s", "Ann"), facts)
        facts = self.tell(numbered(("every", "a", ("some", "r", "a")), ("makes", "r", "r", "s")), ["a"])
        self.assertIn(("has", "a", "s", "a"), facts)

    def test_a_chain_of_several(self):
        pairs = numbered(("makes", "r", "s", "t"), ("makes", "t", "u", "v"), ("within", "v", "r"), ("makes", "r", "w", "z"))
        facts = self.tell(pairs, [chained("rsuw", "a")])
        top = chained("rsuw", "a")
        self.assertIn(("has", top, "t", chained("uw", "a")), facts)
        self.assertIn(("has", top, "v", chained("w", "a")), facts)
        self.assertIn(("has", top, "z", "a"), facts)

    def test_a_tie_that_makes_itself_again(self):
        things = ["Ann", "Bob", "Cay", "Dan", "Eve", "Fay"]
        for turn in [things, things[::-1]]:
            pairs = numbered(*[("tied", one, "r", other) for one, other in zip(turn, turn[1:])], ("makes", "r", "r", "r"))
            facts = {fact for fact in self.tell(pairs) if fact[0] == "has"}
            self.assertEqual(facts, {("has", one, "r", other) for at, one in enumerate(turn) for other in turn[at + 1:]})
            ring = pairs + [(99, ("tied", turn[-1], "r", turn[0]))]
            facts = {fact for fact in self.tell(ring) if fact[0] == "has"}
            self.assertEqual(facts, {("has", one, "r", other) for one in turn for other in turn})

    def test_ties_within_one_another(self):
        pairs = numbered(("within", "r", "r"), ("within", "r", "s"), ("within", "s", "r"), ("tied", "Ann", "s", "Bob"))
        facts = self.tell(pairs)
        self.assertIn(("has", "Ann", "r", "Bob"), facts)

    def test_made_kinds_lead_on(self):
        pairs = numbered(("every", "a", ("some", "r", "b")), ("every", ("some", "r", "c"), "d"), ("every", "b", "c"),
                         ("every", ("both", "a", "d"), ("some", "s", "e")), ("every", ("some", "s", "anything"), "nothing"))
        self.assertIn(("is", "a", "nothing"), self.tell(pairs, ["a"]))


class Known(Asked):
    def test_both_gives_known_kinds_alone(self):
        pairs = numbered(("thing", "Ann", "a"), ("thing", "Ann", "b"), ("every", ("some", "r", ("both", "a", "b")), "c"),
                         ("tied", "Ann", "s", ("Ann")))
        facts = self.tell(pairs, [("both", "b", "a")], [("some", "s", ("both", "a", "a"))])
        self.assertIn(("is", "Ann", ("both", "a", "b")), facts)
        self.assertIn(("is", "Ann", ("both", "a", "a")), facts)
        self.assertIn(("is", "Ann", ("some", "s", ("both", "a", "a"))), facts)
        self.assertNotIn(("is", "Ann", ("both", "b", "a")), facts)
        self.assertNotIn(("is", "Ann", ("both", "b", "b")), facts)

    def test_tie_gives_known_kinds_alone(self):
        pairs = numbered(("thing", "Ann", "a"), ("tied", "Ann", "r", "Ann"), ("no", "z", ("both", ("some", "r", "a"), "z")))
        facts = self.tell(pairs, [("some", "r", "anything")], [("both", "z", ("some", "r", ("some", "r", "a")))])
        self.assertIn(("is", "Ann", ("some", "r", "a")), facts)
        self.assertIn(("is", "Ann", ("some", "r", ("some", "r", "a"))), facts)
        self.assertNotIn(("is", "Ann", ("some", "r", "anything")), facts)

    def test_kinds_of_each_form_of_saying_are_known(self):
        whole = ("both", "a", "a")
        for saying in [("every", whole, "z"), ("every", "z", whole), ("no", whole, "z"), ("no", "z", whole),
                       ("thing", "Bob", ("some", "r", whole))]:
            facts = self.tell(numbered(("thing", "Ann", "a"), saying))
            self.assertIn(("is", "Ann", whole), facts)
        self.assertNotIn(("is", "Ann", whole), self.tell(numbered(("thing", "Ann", "a")), [whole]))

    def test_a_word_that_is_a_kind_and_a_tie(self):
        pairs = numbered(("thing", "Ann", "a"), ("tied", "Ann", "b", "Bob"), ("within", "a", "c"), ("every", "b", "c"),
                         ("makes", "b", "a", "a"), ("thing", "Bob", ("some", "a", "a")))
        facts = self.tell(pairs, [("some", "b", "b")], [("some", "c", "c"), ("some", "a", "a"), ("some", "b", ("some", "c", "a"))])
        self.assertIn(("has", "Bob", "c", "a"), facts)
        self.assertIn(("has", "Ann", "a", "a"), facts)
        self.assertIn(("is", "Ann", ("some", "b", ("some", "c", "a"))), facts)
        self.assertNotIn(("has", "Ann", "c", "Bob"), facts)
        self.assertNotIn(("is", "Ann", "c"), facts)

    def test_two_sayings_that_are_alike(self):
        once = [("every", "a", ("both", "b", "c")), ("no", "b", "c"), ("thing", "Ann", "a"), ("tied", "Ann", "r", "Bob"),
                ("within", "r", "s"), ("makes", "r", "s", "t"), ("makes", "s", "t", "r"), ("tied", "Bob", "s", "Ann")]
        self.assertEqual(self.tell(numbered(*(once + once)), ["a"]), self.tell(numbered(*once), ["a"]))

    def test_numbers_are_those_of_the_sayings(self):
        pairs = [(4, ("every", "a", "b")), (7, ("within", "r", "s")), (19, ("thing", "Ann", "a")),
                 (20, ("tied", "Ann", "r", "Ann")), (333, ("no", "b", "a")), (1000, ("makes", "s", "s", "t"))]
        self.tell(pairs)
        found = {fact: (rule, number) for fact, rule, froms, number in still(pairs, [], [])}
        self.assertEqual(found[("is", "Ann", "b")], ("every", 4))
        self.assertEqual(found[("has", "Ann", "s", "Ann")], ("within", 7))
        self.assertEqual(found[("is", "Ann", "a")], ("thing", 19))
        self.assertEqual(found[("has", "Ann", "r", "Ann")], ("tied", 20))
        self.assertEqual(found[("is", "Ann", "nothing")], ("no", 333))
        self.assertEqual(found[("has", "Ann", "t", "Ann")], ("makes", 1000))


def changed(steps):
    """Spoil a list of steps as far as it can be."""
    for step in steps:
        step[2].append(77)
    steps.append("spoiled")


class Asker(Asked):
    PAIRS = numbered(("every", "a", ("some", "r", "b")), ("thing", "Ann", "a"), ("tied", "Ann", "r", "Bob"),
                     ("every", ("some", "r", "b"), "c"), ("makes", "r", "r", "r"), ("no", "c", ("both", "a", "b")))

    def test_what_is_handed_in_is_as_it_was(self):
        pairs, starts, further = copy.deepcopy(self.PAIRS), ["b", "a", "b"], [("both", "a", "b"), "b"]
        steps = still(pairs, ["b"], [])[:5]
        before = copy.deepcopy((pairs, starts, further, steps))
        changed(still(pairs, starts, further, steps))
        self.assertEqual((pairs, starts, further, steps), before)

    def test_what_is_told_is_the_askers_own(self):
        wanted = copy.deepcopy(still(self.PAIRS, ["a"], []))
        changed(still(self.PAIRS, ["a"], []))
        self.assertEqual(still(self.PAIRS, ["a"], []), wanted)
        froms = [step[2] for step in wanted]
        self.assertEqual(len({id(one) for one in froms}), len(froms))

    def test_keywords(self):
        self.assertEqual(still(pairs=self.PAIRS, starts=["a"], further=[], steps=None), still(self.PAIRS, ["a"], []))


class GoingOn(Asked):
    PAIRS = numbered(("every", "a", ("some", "r", "b")), ("every", "b", "c"), ("every", ("some", "r", "c"), "d"),
                     ("thing", "Ann", "a"), ("tied", "Ann", "r", "Bob"), ("within", "r", "s"), ("makes", "s", "s", "r"))

    def go_on(self, pairs, starts, further, steps):
        before = copy.deepcopy(steps)
        facts = self.tell(pairs, starts, further, steps)
        told = still(pairs, starts, further, steps)
        self.assertEqual(told[:len(steps)], steps)
        for one, other in zip(told, steps):
            self.assertIsNot(one[2], other[2])
        self.assertIsNot(told, steps)
        changed(told)
        self.assertEqual(steps, before)
        return facts

    def test_from_the_empty_list(self):
        facts = self.go_on(self.PAIRS, ["a"], [], [])
        self.assertEqual(facts, self.tell(self.PAIRS, ["a"]))

    def test_from_a_part_of_a_standstill(self):
        whole = still(self.PAIRS, ["a"], [("some", "s", "c")])
        for many in range(len(whole) + 1):
            facts = self.go_on(self.PAIRS, ["a"], [("some", "s", "c")], whole[:many])
            self.assertEqual(facts, set(facts_of(whole)))

    def test_from_a_whole_one(self):
        whole = still(self.PAIRS, ["a"], [])
        self.assertEqual(still(self.PAIRS, ["a"], [], whole), whole)
        self.assertEqual(still(self.PAIRS, [], [], whole), whole)

    def test_with_more_sayings(self):
        for many in range(len(self.PAIRS) + 1):
            steps = still(self.PAIRS[:many], ["a", "d"], [])
            facts = self.go_on(self.PAIRS, ["a", "d"], [], steps)
            self.assertEqual(facts, self.tell(self.PAIRS, ["a", "d"]))
        steps = still(self.PAIRS[3:4], [], [])
        self.assertEqual(self.go_on(self.PAIRS, [], [], steps), self.tell(self.PAIRS))

    def test_stand_ins_that_nothing_else_names(self):
        steps = [(("is", "zebra", "zebra"), "self", [], None)]
        facts = self.go_on([], [], [], steps)
        self.assertEqual(facts, {("is", "zebra", "zebra"), ("is", "zebra", "anything")})
        steps = [(("is", "zebra", "anything"), "all", [], None)]
        self.assertEqual(self.go_on([], [], [], steps), facts)
        steps = [(("is", ("some", "q", "b"), ("some", "q", "b")), "self", [], None),
                 (("has", ("some", "q", "b"), "q", "b"), "some", [0], None)]
        facts = self.go_on(self.PAIRS, [], [("some", "q", "c")], steps)
        self.assertIn(("is", "b", "c"), facts)
        self.assertIn(("is", ("some", "q", "b"), ("some", "q", "c")), facts)

    def test_the_y_of_a_handed_fact_is_a_stand_in(self):
        pairs = numbered(("tied", "Ann", "r", "Bob"), ("thing", "Ann", ("some", "r", "nothing")))
        steps = [(("is", "Ann", ("some", "r", "nothing")), "thing", [], 5),
                 (("has", "Ann", "r", "nothing"), "some", [0], None)]
        facts = self.go_on(pairs, [], [], steps)
        self.assertIn(("is", "nothing", "nothing"), facts)
        self.assertIn(("is", "Ann", "nothing"), facts)

    def test_facts_that_no_other_reason_gives(self):
        # The made kinds are not known, but what is handed in needs no other reason.
        steps = [(("is", "a", "a"), "self", [], None),
                 (("is", "a", ("both", "a", "a")), "both", [0, 0], None),
                 (("is", "a", ("both", ("both", "a", "a"), "a")), "both", [1, 0], None)]
        facts = self.go_on([], ["b"], [], steps)
        self.assertEqual(facts, set(facts_of(steps)) | {("is", "a", "anything"), ("is", "b", "b"), ("is", "b", "anything")})
        more = numbered(("every", ("both", "a", "a"), "c"))
        self.assertIn(("is", "a", "c"), self.go_on(more, [], [], steps))

    def test_what_comes_of_such_facts_is_told(self):
        steps = [(("has", "Ann", "r", "Bob"), "tied", [], 14),
                 (("is", "Bob", "anything"), "all", [], None),
                 (("is", "Ann", ("some", "r", "anything")), "tie", [0, 1], None)]
        facts = self.go_on(self.PAIRS, [], [], steps)
        self.assertIn(("has", "Ann", "r", "anything"), facts)
        self.assertIn(("is", "anything", "anything"), facts)

    def test_drawn_lists(self):
        source = random.Random(1919)
        for turn in range(250):
            pairs = drawn_pairs(source, 6)
            starts, further = drawn_kinds(source, 2), drawn_kinds(source, 2)
            fewer = [pair for pair in pairs if source.random() < 0.6]
            steps = still(fewer, drawn_kinds(source, 2), drawn_kinds(source, 2))
            steps = steps[:source.randrange(len(steps) + 1)]
            self.go_on(pairs, starts, further, steps)


class Drawn(Asked):
    def test_drawn_lists_of_small_sayings(self):
        source = random.Random(1818)
        found = {rule: 0 for rule in RULES}
        for turn in range(1500):
            pairs = drawn_pairs(source, 8)
            starts, further = drawn_kinds(source, 3), drawn_kinds(source, 3)
            self.tell(pairs, starts, further)
            for step in still(pairs, starts, further):
                found[step[1]] += 1
        for rule, many in found.items():
            self.assertGreater(many, 40, rule)

    def test_drawn_lists_with_many_ties(self):
        source = random.Random(1820)
        kinds = ["a", "b", "nothing", ("some", "r", "a"), ("some", "s", "b")]
        for turn in range(150):
            pairs = drawn_pairs(source, 9, kinds=kinds, ties=["r", "s"], things=["Ann", "Bob", "Cay", "Dan"])
            tied = [("tied", source.choice(["Ann", "Bob", "Cay"]), "r", source.choice(["Bob", "Cay", "Dan"])) for at in range(3)]
            self.tell(pairs + [(90 + at, saying) for at, saying in enumerate(tied)], ["a"])


class Bounds(Asked):
    def test_twenty_four_tuples_one_within_another(self):
        for form in ["some", "both", "left", "mixed"]:
            whole = "a"
            for at in range(24):
                if form == "some" or (form == "mixed" and at % 2):
                    whole = ("some", "r" if at % 3 else "s", whole)
                elif form == "left":
                    whole = ("both", whole, "b")
                else:
                    whole = ("both", "b", whole)
            pairs = numbered(("every", "z", whole), ("every", whole, "y"), ("every", "y", whole))
            facts = self.tell(pairs, ["z", whole])
            self.assertIn(("is", "z", "y"), facts)
            facts = self.tell(pairs[1:], [("both", "z", whole), ("both", whole, whole), "y"], [("both", whole, whole)])
            self.assertIn(("is", ("both", "z", whole), ("both", whole, whole)), facts)

    def test_a_long_kind_is_built_from_below(self):
        whole = "a"
        for at in range(24):
            whole = ("some", "r", whole) if at % 2 else ("both", "b", whole)
        pairs = numbered(("thing", "Ann", "a"), ("thing", "Ann", "b"), ("tied", "Ann", "r", "Ann"))
        self.assertIn(("is", "Ann", whole), self.tell(pairs, [], [whole]))

    def test_sixty_sayings_with_two_hundred_tuples(self):
        names = ["k" + letter for letter in "abcdefgh"]
        pairs = [("every", one, chained("r" * 24, other)) for one, other in zip(names, names[1:] + names[:1])]
        pairs += [("every", ("some", "s", name), ("some", "t", "b")) for name in names[:4]]
        pairs += [("makes", "r", "r", "r"), ("within", "r", "s"), ("makes", "s", "t", "u"), ("no", "b", "a")]
        pairs += [("tied", "T" + chr(97 + at), "r", "T" + chr(98 + at)) for at in range(20)]
        pairs += [("thing", "T" + chr(97 + at), "ka") for at in range(20)]
        pairs += [("every", "l" + chr(97 + at), "l" + chr(98 + at)) for at in range(4)]
        pairs = numbered(*pairs)
        self.assertEqual(len(pairs), 60)
        told = still(pairs, ["ka", "la"], [])
        facts = set(facts_of(told))
        self.assertEqual(len(facts), len(told))
        self.assertTrue(stands(told, pairs))
        # All stand-ins of the ring have a tie to all others and to themselves.
        ring = {chained("r" * many, name) for name in names for many in range(24)}
        for x, tie, ends in [("Tt", "r", ring | {"Tu"}), ("kc", "s", ring), (chained("rr", "kd"), "r", ring), ("Tu", "r", set())]:
            self.assertTrue({fact[3] for fact in facts if fact[:3] == ("has", x, tie)} == ends, (x, tie))
        self.assertIn(("has", "ka", "u", "b"), facts)
        self.assertIn(("is", "la", "le"), facts)
        self.assertNotIn("lb", self.about(facts))

    def test_sixty_sayings_of_names(self):
        rows = [("every", "n" + chr(97 + at // 26) + chr(97 + at % 26), "n" + chr(97 + (at + 1) // 26) + chr(97 + (at + 1) % 26))
                for at in range(60)]
        told = still(numbered(*rows), ["naa"], [])
        self.assertEqual(len(told), 62)
        told = still(numbered(*rows[::-1]), ["naa", "nbb"], [])
        self.assertIn(("is", "naa", "nci"), facts_of(told))


if __name__ == "__main__":
    unittest.main()
