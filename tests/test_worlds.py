"""Points [7], [8], [9]: members, keeps, broken."""

import copy
import itertools
import unittest

from kinwords.worlds import broken, keeps, members

EMPTY = (0, {}, {}, {})
ONE = (1, {"cat": [0]}, {"owns": [(0, 0)]}, {"Ann": 0})
HOUSE = (
    5,
    {"cat": [0, 2], "dog": [1, 2, 4], "owns": [3], "bird": []},
    {"owns": [(3, 0), (3, 1), (4, 4), (0, 3), (2, 1)], "sees": [(3, 0), (0, 1)], "far": []},
    {"Ann": 3, "Rex": 1, "Tom": 0, "Kit": 0},
)


class Members(unittest.TestCase):
    def test_name(self):
        self.assertEqual(members(HOUSE, "cat"), [0, 2])
        self.assertEqual(members(HOUSE, "dog"), [1, 2, 4])
        self.assertEqual(members(HOUSE, "bird"), [])
        self.assertEqual(members(HOUSE, "owns"), [3])

    def test_what_the_dict_does_not_have(self):
        self.assertEqual(members(HOUSE, "fish"), [])
        self.assertEqual(members(HOUSE, "sees"), [])
        self.assertEqual(members(HOUSE, ("some", "cat", "anything")), [])
        self.assertEqual(members(HOUSE, ("some", "eats", "cat")), [])
        self.assertEqual(members(HOUSE, ("both", "fish", "cat")), [])
        self.assertEqual(members(HOUSE, ("both", "cat", "fish")), [])

    def test_anything_and_nothing(self):
        self.assertEqual(members(HOUSE, "anything"), [0, 1, 2, 3, 4])
        self.assertEqual(members(HOUSE, "nothing"), [])
        self.assertEqual(members(HOUSE, ("both", "anything", "cat")), [0, 2])
        self.assertEqual(members(HOUSE, ("both", "cat", "nothing")), [])
        self.assertEqual(members(HOUSE, ("some", "owns", "nothing")), [])

    def test_both(self):
        self.assertEqual(members(HOUSE, ("both", "cat", "dog")), [2])
        self.assertEqual(members(HOUSE, ("both", "dog", "cat")), [2])
        self.assertEqual(members(HOUSE, ("both", "dog", "dog")), [1, 2, 4])
        self.assertEqual(members(HOUSE, ("both", "cat", "owns")), [])

    def test_some_is_rising_each_once(self):
        self.assertEqual(members(HOUSE, ("some", "owns", "anything")), [0, 2, 3, 4])
        self.assertEqual(members(HOUSE, ("some", "owns", "dog")), [2, 3, 4])
        self.assertEqual(members(HOUSE, ("some", "owns", "owns")), [0])
        self.assertEqual(members(HOUSE, ("some", "sees", "cat")), [3])
        self.assertEqual(members(HOUSE, ("some", "far", "anything")), [])

    def test_within_one_another(self):
        self.assertEqual(members(HOUSE, ("some", "owns", ("some", "owns", "anything"))), [0, 3, 4])
        self.assertEqual(members(HOUSE, ("some", "owns", ("both", "cat", "dog"))), [])
        self.assertEqual(members(HOUSE, ("both", ("some", "owns", "cat"), ("some", "owns", "dog"))), [3])
        self.assertEqual(members(HOUSE, ("both", "cat", ("some", "owns", ("some", "sees", "cat")))), [0])

    def test_no_place_and_one_place(self):
        for kind in ["anything", "nothing", "cat", ("both", "anything", "anything"),
                     ("some", "owns", "anything")]:
            self.assertEqual(members(EMPTY, kind), [])
        self.assertEqual(members(ONE, "anything"), [0])
        self.assertEqual(members(ONE, "cat"), [0])
        self.assertEqual(members(ONE, "dog"), [])
        self.assertEqual(members(ONE, ("some", "owns", ("both", "cat", "anything"))), [0])

    def test_a_hundred_places(self):
        many = 100
        world = (many, {"last": [99]}, {"next": [(99 - at - 1, 99 - at) for at in range(99)]}, {})
        kind = "last"
        for at in range(24):
            kind = ("some", "next", kind)
        self.assertEqual(members(world, kind), [75])
        self.assertEqual(members(world, "anything"), list(range(100)))
        self.assertEqual(members(world, ("some", "next", "anything")), list(range(99)))

    def test_rising_where_a_set_s_own_order_does_not_rise(self):
        places = [1, 8, 33, 64, 90]
        pairs = [(place, 0) for place in places[::-1]]
        world = (100, {"a": places, "b": places + [99]}, {"r": pairs}, {})
        self.assertNotEqual(list(set(places)), places)
        self.assertEqual(members(world, ("both", "a", "b")), places)
        self.assertEqual(members(world, ("some", "r", "anything")), places)

    def test_the_told_list_is_new(self):
        world = copy.deepcopy(HOUSE)
        for kind in ["cat", "bird", "fish", "anything", "nothing", ("both", "cat", "cat"),
                     ("some", "owns", "anything")]:
            wanted = members(HOUSE, kind)
            told = members(world, kind)
            self.assertIs(type(told), list)
            told.append(77)
            self.assertEqual(world, HOUSE)
            self.assertEqual(members(world, kind), wanted)


class Keeps(unittest.TestCase):
    def kept(self, saying, world=HOUSE):
        self.assertIs(keeps(world, saying), True, saying)

    def not_kept(self, saying, world=HOUSE):
        self.assertIs(keeps(world, saying), False, saying)

    def test_every(self):
        self.kept(("every", ("both", "cat", "dog"), "dog"))
        self.kept(("every", "cat", "anything"))
        self.kept(("every", "bird", "cat"))
        self.kept(("every", "fish", "nothing"))
        self.kept(("every", "cat", "cat"))
        self.not_kept(("every", "cat", "dog"))
        self.not_kept(("every", "dog", "cat"))
        self.not_kept(("every", "cat", "fish"))
        self.not_kept(("every", "anything", "nothing"))
        self.kept(("every", "anything", "nothing"), EMPTY)
        self.not_kept(("every", "cat", "nothing"), ONE)

    def test_no(self):
        self.kept(("no", "cat", "owns"))
        self.kept(("no", "cat", "fish"))
        self.kept(("no", "nothing", "anything"))
        self.not_kept(("no", "cat", "dog"))
        self.not_kept(("no", "dog", "cat"))
        self.not_kept(("no", "cat", "cat"))
        self.kept(("no", "bird", "bird"))
        self.kept(("no", "anything", "anything"), EMPTY)
        self.not_kept(("no", "anything", "cat"), ONE)

    def test_thing(self):
        self.kept(("thing", "Tom", "cat"))
        self.kept(("thing", "Kit", "cat"))
        self.kept(("thing", "Ann", ("some", "owns", "dog")))
        self.kept(("thing", "Ann", "anything"))
        self.not_kept(("thing", "Tom", "dog"))
        self.not_kept(("thing", "Ann", "nothing"))
        self.not_kept(("thing", "Ann", "fish"))

    def test_thing_without_a_place(self):
        self.not_kept(("thing", "Eve", "anything"))
        self.not_kept(("thing", "Eve", "cat"))
        self.not_kept(("thing", "Ann", "anything"), EMPTY)

    def test_tied(self):
        self.kept(("tied", "Ann", "owns", "Rex"))
        self.not_kept(("tied", "Rex", "owns", "Ann"))
        self.not_kept(("tied", "Ann", "sees", "Rex"))
        self.kept(("tied", "Tom", "sees", "Rex"))

    def test_tied_to_two_things_at_one_place(self):
        self.kept(("tied", "Ann", "owns", "Tom"))
        self.kept(("tied", "Ann", "owns", "Kit"))
        self.not_kept(("tied", "Tom", "owns", "Kit"))
        self.kept(("tied", "Ann", "owns", "Bob"), (1, {}, {"owns": [(0, 0)]}, {"Ann": 0, "Bob": 0}))

    def test_tied_to_itself(self):
        self.kept(("tied", "Ann", "owns", "Ann"), ONE)
        self.not_kept(("tied", "Ann", "owns", "Ann"))

    def test_tied_without_a_place_or_pairs(self):
        self.not_kept(("tied", "Ann", "owns", "Eve"))
        self.not_kept(("tied", "Eve", "owns", "Ann"))
        self.not_kept(("tied", "Eve", "owns", "Eve"), ONE)
        self.not_kept(("tied", "Ann", "far", "Rex"))
        self.not_kept(("tied", "Ann", "eats", "Rex"))
        self.not_kept(("tied", "Ann", "owns", "Rex"), EMPTY)

    def test_within(self):
        world = (3, {}, {"r": [(0, 1), (2, 2)], "s": [(2, 2), (1, 0), (0, 1)], "e": []}, {})
        self.kept(("within", "r", "s"), world)
        self.not_kept(("within", "s", "r"), world)
        self.kept(("within", "s", "s"), world)
        for none in ["e", "absent"]:
            self.kept(("within", none, "r"), world)
            self.kept(("within", none, "e"), world)
            self.kept(("within", none, "absent"), world)
            self.not_kept(("within", "r", none), world)
        self.kept(("within", "r", "s"), EMPTY)

    def test_makes(self):
        world = (4, {}, {"r": [(0, 1), (0, 2)], "s": [(1, 3), (2, 0)], "t": [(0, 3), (0, 0)],
                         "u": [(0, 3)], "e": []}, {})
        self.kept(("makes", "r", "s", "t"), world)
        self.not_kept(("makes", "r", "s", "u"), world)
        self.not_kept(("makes", "s", "r", "t"), world)
        self.kept(("makes", "r", "r", "e"), world)
        for none in ["e", "absent"]:
            self.kept(("makes", none, "s", "e"), world)
            self.kept(("makes", "r", none, "e"), world)
            self.not_kept(("makes", "r", "s", none), world)
        self.kept(("makes", "r", "s", "t"), EMPTY)

    def test_makes_of_one_tie(self):
        self.kept(("makes", "owns", "owns", "owns"), ONE)
        self.not_kept(("makes", "r", "r", "r"), (3, {}, {"r": [(0, 1), (1, 2)]}, {}))
        self.kept(("makes", "r", "r", "r"), (3, {}, {"r": [(0, 1), (1, 2), (0, 2)]}, {}))

    def test_a_kind_and_a_tie_of_one_name(self):
        self.kept(("every", "owns", ("some", "owns", "cat")))
        self.not_kept(("every", ("some", "owns", "cat"), "cat"))

    def test_a_hundred_places_of_all_pairs(self):
        places = list(range(100))
        pairs = [(p, q) for p in places for q in places]
        world = (100, {"a": places}, {"r": pairs, "s": pairs[:-1]}, {"Ann": 99})
        self.kept(("makes", "r", "r", "r"), world)
        self.not_kept(("makes", "r", "r", "s"), world)
        self.not_kept(("tied", "Ann", "s", "Ann"), world)
        self.kept(("every", "anything", ("some", "s", "a")), world)


def slow_member(world, place, kind):
    """The words of [8], place by place."""
    many, kinds, ties, things = world
    if kind == "anything":
        return True
    if kind == "nothing":
        return False
    if isinstance(kind, str):
        return place in kinds.get(kind, [])
    if kind[0] == "both":
        return slow_member(world, place, kind[1]) and slow_member(world, place, kind[2])
    pairs = ties.get(kind[1], [])
    return any((place, q) in pairs and slow_member(world, q, kind[2]) for q in range(many))


def slow_keeps(world, saying):
    """The words of [9], place by place."""
    many, kinds, ties, things = world
    form, *parts = saying
    places = range(many)
    if form == "every":
        return all(slow_member(world, p, parts[1]) for p in places if slow_member(world, p, parts[0]))
    if form == "no":
        return not any(slow_member(world, p, parts[0]) and slow_member(world, p, parts[1]) for p in places)
    if form == "thing":
        return parts[0] in things and slow_member(world, things[parts[0]], parts[1])
    if form == "tied":
        return (parts[0] in things and parts[2] in things
                and (things[parts[0]], things[parts[2]]) in ties.get(parts[1], []))
    if form == "within":
        return all(pair in ties.get(parts[1], []) for pair in ties.get(parts[0], []))
    return all((p, z) in ties.get(parts[2], [])
               for p, q in ties.get(parts[0], []) for q2, z in ties.get(parts[1], []) if q == q2)


def parts_of(xs):
    return [list(part) for many in range(len(xs) + 1) for part in itertools.combinations(xs, many)]


def small_worlds():
    """All worlds of up to two places with a few names."""
    yield EMPTY
    for many in [1, 2]:
        places = list(range(many))
        pairs = [(p, q) for p in places for q in places]
        for a, b in itertools.product(parts_of(places), repeat=2):
            for r, s in itertools.product(parts_of(pairs), repeat=2):
                yield (many, {"a": a, "b": b}, {"r": r, "s": s[::-1]}, {"Ann": places[-1], "Bob": 0})


class AllSmallWorlds(unittest.TestCase):
    def test_as_the_words_say(self):
        kinds = ["a", "c", "anything", "nothing", ("both", "a", "b"), ("some", "r", "a"),
                 ("some", "s", ("both", "b", ("some", "r", "anything"))), ("some", "q", "a")]
        sayings = [
            ("every", "a", "b"), ("every", ("some", "r", "a"), "b"), ("every", "a", "c"),
            ("no", "a", "b"), ("no", ("some", "s", "b"), ("some", "r", "anything")),
            ("thing", "Ann", ("some", "r", "a")), ("thing", "Bob", "a"), ("thing", "Eve", "anything"),
            ("tied", "Ann", "r", "Bob"), ("tied", "Bob", "s", "Bob"), ("tied", "Eve", "r", "Ann"),
            ("within", "r", "s"), ("within", "r", "q"),
            ("makes", "r", "s", "r"), ("makes", "s", "s", "s"), ("makes", "r", "r", "s"),
            ("makes", "r", "s", "q"),
        ]
        for world in small_worlds():
            for kind in kinds:
                wanted = [p for p in range(world[0]) if slow_member(world, p, kind)]
                self.assertEqual(members(world, kind), wanted, (world, kind))
            wanted = [slow_keeps(world, saying) for saying in sayings]
            self.assertEqual([keeps(world, saying) for saying in sayings], wanted, world)
            self.assertEqual(broken(world, sayings), [at for at, kept in enumerate(wanted) if not kept])


class Broken(unittest.TestCase):
    def test_no_saying(self):
        for world in [EMPTY, ONE, HOUSE]:
            self.assertEqual(broken(world, []), [])

    def test_all_kept_and_none_kept(self):
        kept = [("every", "cat", "anything"), ("no", "cat", "fish"), ("thing", "Tom", "cat"),
                ("tied", "Ann", "owns", "Rex"), ("within", "far", "owns"), ("makes", "far", "owns", "far")]
        not_kept = [("every", "cat", "dog"), ("no", "cat", "dog"), ("thing", "Eve", "anything"),
                    ("tied", "Rex", "owns", "Ann"), ("within", "owns", "far"),
                    ("makes", "owns", "owns", "far")]
        self.assertEqual(broken(HOUSE, kept), [])
        self.assertEqual(broken(HOUSE, not_kept), [0, 1, 2, 3, 4, 5])
        mixed = [saying for two in zip(kept, not_kept) for saying in two]
        self.assertEqual(broken(HOUSE, mixed), [1, 3, 5, 7, 9, 11])

    def test_sayings_that_stand_there_twice(self):
        wrong = ("every", "cat", "dog")
        right = ("every", "cat", "cat")
        self.assertEqual(broken(HOUSE, [wrong, right, wrong, wrong, right]), [0, 2, 3])
        self.assertEqual(broken(HOUSE, [right, right, wrong]), [2])

    def test_the_told_list_is_new(self):
        sayings = [("every", "cat", "dog")]
        for given in [sayings, []]:
            wanted = broken(HOUSE, given)
            told = broken(HOUSE, given)
            self.assertIs(type(told), list)
            told.append(9)
            self.assertEqual(broken(HOUSE, given), wanted)


class NothingChanged(unittest.TestCase):
    def test_worlds_and_sayings_stay_as_they_were(self):
        sayings = [
            ("every", ("both", "cat", "fish"), ("some", "owns", "dog")), ("no", "cat", "dog"),
            ("thing", "Eve", "fish"), ("tied", "Eve", "eats", "Rex"), ("within", "eats", "owns"),
            ("within", "owns", "eats"), ("makes", "owns", "eats", "sees"), ("makes", "eats", "owns", "sees"),
        ]
        for start in [EMPTY, ONE, HOUSE]:
            world = copy.deepcopy(start)
            handed = list(sayings)
            for saying in handed:
                keeps(world, saying)
                self.assertEqual(world, start)
            members(world, ("both", "fish", ("some", "eats", "cat")))
            self.assertEqual(world, start)
            broken(world, handed)
            self.assertEqual(world, start)
            self.assertEqual(handed, sayings)

    def test_lists_that_do_not_rise_are_not_put_in_order(self):
        pairs = [(2, 0), (0, 1), (1, 2)]
        world = (3, {}, {"r": pairs}, {})
        members(world, ("some", "r", "anything"))
        keeps(world, ("makes", "r", "r", "r"))
        self.assertEqual(pairs, [(2, 0), (0, 1), (1, 2)])


if __name__ == "__main__":
    unittest.main()
