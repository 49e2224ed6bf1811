"""Point [21]: the small world of a standstill."""

import copy
import random
import unittest

from helper import drawn_kinds, drawn_pairs, facts_of, is_thing_name, known_kinds, numbered
from kinwords.small import small_world
from kinwords.stills import still
from kinwords.worlds import broken, members


def wanted_places(facts, starts):
    """The stand-ins that are places: things, starts, and whom they have."""
    about = {x for fact in facts for x in (fact[1], fact[-1] if fact[0] == "has" else fact[1])}
    found = {x for x in about if is_thing_name(x)} | set(starts)
    while True:
        more = {fact[3] for fact in facts if fact[0] == "has" and fact[1] in found}
        if more <= found:
            return found
        found |= more


def same_look(world, spot, facts, x):
    """Whether a place of a world has the names, and the ties to itself, that the facts tell of a stand-in."""
    names = {name for name, spots in world[1].items() if spot in spots}
    told = {fact[2] for fact in facts if fact[0] == "is" and fact[1] == x and isinstance(fact[2], str)}
    loops = {tie for tie, pairs in world[2].items() if (spot, spot) in pairs}
    return names == told - {"anything", "nothing"} and loops == {
        fact[2] for fact in facts if fact[0] == "has" and fact[1] == fact[3] == x}


def tied_alike(world, facts, one, other):
    """Whether two (place, stand-in) pairs have the same ties to one another in the world and by the facts."""
    ties = {tie for tie, pairs in world[2].items() if (one[0], other[0]) in pairs}
    return ties == {fact[2] for fact in facts if fact[0] == "has" and (fact[1], fact[3]) == (one[1], other[1])}


def matched(world, facts, stand_ins, found):
    """A row of pairs (place, stand-in) by which the world is what the facts tell, or None."""
    if len(found) == len(stand_ins):
        return found
    x = stand_ins[len(found)]
    spots = [world[3][x]] if is_thing_name(x) else range(world[0])
    taken = [spot for spot, other in found]
    for spot in spots:
        if spot in taken or not same_look(world, spot, facts, x):
            continue
        here = (spot, x)
        if all(tied_alike(world, facts, here, one) and tied_alike(world, facts, one, here) for one in found):
            whole = matched(world, facts, stand_ins, found + [here])
            if whole is not None:
                return whole
    return None


class Asked(unittest.TestCase):
    def tell(self, pairs, starts, further=(), steps=None, asked=None):
        """The small world, which is found to be right, and which stand-in has which place."""
        asked = list(starts) if asked is None else list(asked)
        steps = still(list(pairs), list(starts), list(further), steps)
        facts = set(facts_of(steps))
        world = small_world(steps, asked)
        self.check_form(world)
        wanted = wanted_places(facts, asked)
        self.assertEqual(world[0], len(wanted))
        self.assertEqual(set(world[3]), {x for x in wanted if is_thing_name(x)})
        found = matched(world, facts, sorted(wanted, key=repr), [])
        self.assertIsNotNone(found, (steps, world))
        self.assertEqual(broken(world, [saying for number, saying in pairs]), [])
        for kind in known_kinds(pairs, further):
            self.assertEqual(members(world, kind), sorted(spot for spot, x in found if ("is", x, kind) in facts))
        return world, {x: spot for spot, x in found}

    def check_form(self, world):
        self.assertIsInstance(world, tuple)
        many, kinds, ties, things = world
        self.assertIs(int, many.__class__)
        for spots in kinds.values():
            self.assertIsInstance(spots, list)
            self.assertEqual(spots, sorted(set(spots)))
            self.assertTrue(set(spots) <= set(range(many)))
        for tied in ties.values():
            self.assertIsInstance(tied, list)
            self.assertEqual(len(tied), len(set(tied)))
            for pair in tied:
                self.assertIsInstance(pair, tuple)
                self.assertTrue(set(pair) <= set(range(many)))
        self.assertTrue(set(things.values()) <= set(range(many)))
        self.assertFalse({"anything", "nothing"} & set(kinds))


class Places(Asked):
    def test_no_steps(self):
        self.assertEqual(small_world([], []), (0, {}, {}, {}))
        self.assertEqual(self.tell(numbered(("every", "a", "b"), ("no", "anything", "anything")), [])[0], (0, {}, {}, {}))

    def test_one_start(self):
        self.assertEqual(self.tell([], ["a"])[0], (1, {"a": [0]}, {}, {}))
        self.assertEqual(self.tell([], ["anything"])[0], (1, {}, {}, {}))

    def test_the_same_start_twice(self):
        self.assertEqual(small_world(still([], ["a", "b"], []), ["a", "a"]), (1, {"a": [0]}, {}, {}))
        whole = ("both", "a", ("some", "r", "b"))
        world, place = self.tell([], [whole, "b", whole])
        self.assertEqual(world[0], 2)

    def test_starts_alone_of_the_stand_ins(self):
        pairs = numbered(("every", "a", ("some", "r", "b")), ("every", "c", ("some", "r", "d")))
        for asked, wanted in [([], set()), (["a"], {"a", "b"}), (["b"], {"b"}), (["c", "b"], {"b", "c", "d"})]:
            world, place = self.tell(pairs, ["a", "c"], asked=asked)
            self.assertEqual(set(place), wanted)

    def test_things_of_each_form(self):
        pairs = numbered(("thing", "Ann", "a"), ("tied", "Bob", "r", "Cay"), ("every", "b", "c"))
        world, place = self.tell(pairs, [])
        self.assertEqual(set(place), {"Ann", "Bob", "Cay"})
        self.assertEqual(world[1], {"a": [place["Ann"]]})
        self.assertEqual(world[2], {"r": [(place["Bob"], place["Cay"])]})
        self.assertEqual(world[3], {x: place[x] for x in ["Ann", "Bob", "Cay"]})

    def test_a_thing_that_is_only_had(self):
        world, place = self.tell(numbered(("tied", "Ann", "r", "Bob")), [])
        self.assertEqual(set(world[3]), {"Ann", "Bob"})

    def test_whom_they_have_step_by_step(self):
        pairs = numbered(("thing", "Ann", ("some", "r", "a")), ("every", "a", ("some", "s", ("both", "b", "c"))),
                         ("every", ("both", "b", "c"), ("some", "r", "a")), ("every", "d", ("some", "r", "e")))
        world, place = self.tell(pairs, ["e"])
        self.assertEqual(set(place), {"Ann", "a", ("both", "b", "c"), "e"})
        self.assertEqual(world[2]["s"], [(place["a"], place[("both", "b", "c")])])

    def test_ties_within_and_made(self):
        pairs = numbered(("tied", "Ann", "r", "Bob"), ("tied", "Bob", "r", "Cay"), ("makes", "r", "r", "r"),
                         ("within", "r", "s"), ("tied", "Cay", "q", "Ann"))
        world, place = self.tell(pairs, [])
        ann, bob, cay = [place[x] for x in ["Ann", "Bob", "Cay"]]
        for tie in "rs":
            self.assertEqual(set(world[2][tie]), {(ann, bob), (bob, cay), (ann, cay)})
        self.assertEqual(world[2]["q"], [(cay, ann)])

    def test_a_start_that_is_not_known(self):
        whole = ("both", "a", ("some", "r", ("both", "b", "c")))
        pairs = numbered(("every", "b", "d"))
        world, place = self.tell(pairs, [whole])
        self.assertEqual(members(world, whole), [place[whole]])

    def test_kinds_of_other_order_are_two_places(self):
        world, place = self.tell([], [("both", "a", "b"), ("both", "b", "a"), "a"], [("both", "a", "b")])
        self.assertEqual(world[0], 3)
        self.assertEqual(len(world[1]["a"]), 3)

    def test_a_word_that_is_a_kind_and_a_tie(self):
        pairs = numbered(("thing", "Ann", "r"), ("tied", "Ann", "r", "Bob"), ("thing", "Bob", ("some", "a", "a")))
        world, place = self.tell(pairs, ["r"])
        self.assertEqual(world[1]["r"], sorted([place["Ann"], place["r"]]))
        self.assertEqual(world[2]["r"], [(place["Ann"], place["Bob"])])

    def test_a_stand_in_that_is_nothing_and_no_place(self):
        pairs = numbered(("every", "b", "nothing"), ("thing", "Ann", "a"))
        world, place = self.tell(pairs, ["b", "a"], asked=["a"])
        self.assertEqual(set(place), {"Ann", "a"})

    def test_stand_ins_of_handed_steps_are_no_places_by_that(self):
        steps = still([], ["zebra", ("some", "q", "fox")], [])
        world, place = self.tell(numbered(("thing", "Ann", "a")), ["b"], steps=steps)
        self.assertEqual(set(place), {"Ann", "b"})
        world, place = self.tell(numbered(("thing", "Ann", "a")), ["b"], steps=steps, asked=["b", ("some", "q", "fox")])
        self.assertEqual(set(place), {"Ann", "b", ("some", "q", "fox"), "fox"})

    def test_facts_of_handed_steps_are_places_of_the_things_that_have_them(self):
        pairs = numbered(("tied", "Ann", "r", "Bob"))
        steps = [(("has", "Ann", "r", "Bob"), "tied", [], 2), (("is", "Bob", "anything"), "all", [], None),
                 (("is", "Ann", ("some", "r", "anything")), "tie", [0, 1], None)]
        world, place = self.tell(pairs, [], steps=steps)
        self.assertEqual(set(place), {"Ann", "Bob", "anything"})


class Asker(Asked):
    def test_what_is_handed_in_is_as_it_was_and_what_is_told_is_new(self):
        pairs = numbered(("tied", "Ann", "r", "Bob"), ("every", "a", ("some", "s", "b")), ("thing", "Ann", "a"))
        steps, starts = still(pairs, ["a"], []), ["a", "a"]
        before = copy.deepcopy((steps, starts))
        world = small_world(steps, starts)
        wanted = copy.deepcopy(world)
        for table in world[1:3]:
            for told in table.values():
                told.append(99)
            table["z"] = [0]
        world[3]["Zed"] = 0
        self.assertEqual((steps, starts), before)
        self.assertEqual(small_world(steps, starts), wanted)


class Bounds(Asked):
    def test_twenty_four_tuples_one_within_another(self):
        whole = "a"
        for at in range(24):
            whole = ("some", "r", whole)
        world, place = self.tell(numbered(("every", "z", whole), ("every", whole, "y"), ("makes", "r", "r", "s")), ["z"])
        self.assertEqual(world[0], 25)
        mixed = "a"
        for at in range(24):
            mixed = ("both", ("some", "r", mixed), "b") if at % 2 else ("both", "b", mixed)
        world, place = self.tell([], [mixed], [("both", mixed, mixed)])
        self.assertEqual(world[0], 13)

    def test_many_places(self):
        names = ["k" + letter for letter in "abcdefgh"]
        rows = []
        for one, other in zip(names, names[1:] + names[:1]):
            kind = other
            for at in range(24):
                kind = ("some", "r", kind)
            rows.append(("every", one, kind))
        rows += [("makes", "r", "r", "s"), ("within", "s", "t"), ("thing", "Ann", "ka")]
        pairs = numbered(*rows)
        steps = still(pairs, ["kd"], [])
        world = small_world(steps, ["kd"])
        self.check_form(world)
        # Each name's row of somes, one behind the other, in a ring, and the thing.
        self.assertEqual(world[0], 193)
        self.assertEqual(len(world[2]["s"]), 193)
        self.assertEqual(broken(world, rows), [])


class Drawn(Asked):
    def test_drawn_standstills(self):
        source = random.Random(2121)
        many = tried = 0
        while many < 400:
            tried += 1
            self.assertLess(tried, 4000)
            pairs = drawn_pairs(source, 6)
            starts, further = drawn_kinds(source, 3), drawn_kinds(source, 2)
            facts = facts_of(still(pairs, starts, further))
            empty = {fact[1] for fact in facts if fact[0] == "is" and fact[2] == "nothing"}
            if any(is_thing_name(x) for x in empty):
                continue
            asked = [kind for kind in starts if kind not in empty]
            self.tell(pairs, starts, further, asked=asked)
            many += 1


if __name__ == "__main__":
    unittest.main()
