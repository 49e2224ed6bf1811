"""Points [1], [3] and [26] to [28]: the desk."""

import copy
import random
import unittest

from helper import all_choices, drawn_pairs, drawn_question, drawn_saying, is_right_besides
from kinwords.answers import answer, follows, goal
from kinwords.desk import Desk
from kinwords.errors import KinError, NoQuestion, NoSaying, TooMany
from kinwords.kinds import named
from kinwords.least import cuts, least
from kinwords.plain import plain_saying
from kinwords.rules import right
from kinwords.worlds import broken, keeps


def desk_of(*sayings):
    desk = Desk()
    for saying in sayings:
        desk.put(saying)
    return desk


def slow_table(pairs):
    """The table, each pair asked by itself."""
    kinds = {name for number, saying in pairs for name in named(saying)[0]}
    things = {name for number, saying in pairs for name in named(saying)[2]}
    found = []
    for x in kinds | things:
        for other in kinds | {"nothing"}:
            question = ("thing" if x in things else "every", x, other)
            if x != other and follows(pairs, question):
                found.append((x, other))
    return sorted(found)


def state(desk):
    """All that can be seen of a desk, but its next number."""
    return copy.deepcopy((desk.said(), desk.table()))


class Asked(unittest.TestCase):
    def certain(self, desk, question):
        """Whether a question follows; that this is so is seen by the steps, or by the world."""
        pairs = desk.said()
        word, told = desk.ask(question)
        plain_question = plain_saying(question)
        if word == "follows":
            for at in range(len(told)):
                self.assertTrue(right(told, at, pairs) or is_right_besides(told, at), (told, at))
            self.assertEqual(told[-1][0], goal(plain_question))
            return True
        self.assertEqual(word, "fails")
        self.assertEqual(broken(told, [saying for number, saying in pairs]), [])
        for asked in [question, plain_question]:
            self.assertFalse(keeps(told, asked))
        return False


class Numbers(Asked):
    def test_from_one_on(self):
        desk = Desk()
        self.assertEqual(desk.said(), [])
        for at in range(1, 6):
            told = desk.put(("within", "r", "s"))
            self.assertIsInstance(told, tuple)
            self.assertEqual(told, (at, []))
        self.assertEqual(desk.said(), [(at, ("within", "r", "s")) for at in range(1, 6)])

    def test_no_number_twice(self):
        desk = desk_of(("every", "a", "b"), ("every", "b", "c"))
        desk.take(2)
        self.assertEqual(desk.put(("every", "b", "c"))[0], 3)
        desk.take(3)
        desk.take(1)
        self.assertEqual(desk.said(), [])
        self.assertEqual(desk.put(("every", "b", "c"))[0], 4)
        self.assertEqual(desk.said(), [(4, ("every", "b", "c"))])

    def test_in_the_order_of_the_numbers(self):
        desk = desk_of(*[("thing", "Ann", "k" + letter) for letter in "abcdef"])
        desk.take(4)
        desk.take(1)
        desk.put(("thing", "Ann", "ka"))
        self.assertEqual([number for number, saying in desk.said()], [2, 3, 5, 6, 7])

    def test_kept_in_the_plain_form(self):
        desk = desk_of(("every", ("both", "b", ("both", "a", "b")), ("both", "anything", "c")),
                       ("thing", "Ann", ("some", "r", ("both", "b", "a"))), ("no", "a", ("some", "r", "nothing")),
                       ("tied", "Ann", "r", "Bob"), ("makes", "r", "s", "t"))
        self.assertEqual(desk.said(), [
            (1, ("every", ("both", "a", "b"), "c")), (2, ("thing", "Ann", ("some", "r", ("both", "a", "b")))),
            (3, ("no", "a", "nothing")), (4, ("tied", "Ann", "r", "Bob")), (5, ("makes", "r", "s", "t"))])

    def test_questions_are_asked_in_their_plain_form(self):
        desk = desk_of(("every", ("both", "b", "a"), "c"))
        question = ("every", ("both", "a", ("both", "b", "a")), ("both", "c", "anything"))
        word, steps = desk.ask(question)
        self.assertEqual(word, "follows")
        self.assertEqual(steps[-1][0], ("is", ("both", "a", "b"), "c"))
        self.assertEqual(desk.least(question, 5), ([[1]], True))
        self.assertEqual(desk.cuts(question, 5), ([[1]], True))
        self.assertEqual(desk.ask(("no", "b", ("both", "a", "a")))[0], "fails")

    def test_two_desks(self):
        one, other = Desk(), Desk()
        one.put(("thing", "Ann", "a"))
        one.put(("every", "a", "b"))
        self.assertEqual((other.said(), other.table()), ([], []))
        self.assertEqual(other.put(("thing", "Bob", "b")), (1, [("Bob", "b")]))
        self.assertEqual(one.table(), [("Ann", "a"), ("Ann", "b"), ("a", "b")])
        one.take(1)
        self.assertEqual(other.said(), [(1, ("thing", "Bob", "b"))])


class Refused(Asked):
    def test_no_such_number(self):
        desk = desk_of(("every", "a", "b"), ("thing", "Ann", "a"), ("tied", "Ann", "r", "Bob"))
        desk.take(2)
        before = state(desk)
        for number in [0, -1, -3, 2, 4, 99, 10 ** 12]:
            for turn in range(2):
                with self.assertRaises(NoSaying) as caught:
                    desk.take(number)
                self.assertEqual(caught.exception.number, number)
                self.assertIsInstance(caught.exception, KinError)
                self.assertEqual(state(desk), before)
        self.assertEqual(desk.put(("every", "a", "c"))[0], 4)

    def test_an_empty_desk(self):
        desk = Desk()
        for number in [0, 1, -1]:
            with self.assertRaises(NoSaying) as caught:
                desk.take(number)
            self.assertEqual(caught.exception.number, number)
        self.assertEqual(desk.put(("every", "a", "b"))[0], 1)

    def test_true_is_no_whole_number(self):
        desk = desk_of(("every", "a", "b"))
        for number in [True, False]:
            with self.assertRaises(NoSaying):
                desk.take(number)
        self.assertEqual(desk.said(), [(1, ("every", "a", "b"))])

    def test_no_question(self):
        desk = desk_of(("every", "a", "b"), ("within", "r", "s"))
        before = state(desk)
        for question in [("within", "r", "s"), ("makes", "r", "r", "r")]:
            with self.assertRaises(NoQuestion):
                desk.ask(question)
            for most in [0, 1, 5]:
                with self.assertRaises(NoQuestion):
                    desk.least(question, most)
                with self.assertRaises(NoQuestion):
                    desk.cuts(question, most)
        self.assertEqual(state(desk), before)
        self.assertEqual(desk.put(("every", "a", "b"))[0], 3)

    def test_too_many(self):
        desk = desk_of(*[("every", "a", "b")] * 13)
        before = state(desk)
        for question in [("every", "a", "b"), ("within", "r", "s")]:
            with self.assertRaises(TooMany):
                desk.least(question, 1)
            with self.assertRaises(TooMany):
                desk.cuts(question, 1)
        self.assertEqual(state(desk), before)
        desk.take(7)
        self.assertEqual(desk.least(("every", "a", "b"), 2)[1], False)
        self.assertEqual(desk.cuts(("every", "a", "b"), 2), ([[at for at in range(1, 14) if at != 7]], True))


class Tables(Asked):
    def test_an_empty_desk(self):
        self.assertEqual(Desk().table(), [])

    def test_things_and_kinds(self):
        desk = desk_of(("every", "dog", "pet"), ("thing", "Rex", "dog"), ("tied", "Ann", "owns", "Rex"),
                       ("every", ("some", "owns", "pet"), "happy"))
        self.assertEqual(desk.table(), [("Ann", "happy"), ("Rex", "dog"), ("Rex", "pet"), ("dog", "pet")])

    def test_nothing_as_the_second(self):
        desk = desk_of(("every", "a", "nothing"), ("thing", "Ann", "b"))
        self.assertEqual(desk.table(), [("Ann", "b"), ("a", "b"), ("a", "nothing")])
        desk = desk_of(("no", "anything", "anything"), ("every", "b", ("some", "r", "a")))
        self.assertEqual(desk.table(), [("a", "b"), ("a", "nothing"), ("b", "a"), ("b", "nothing")])

    def test_anything_and_itself_never(self):
        desk = desk_of(("every", "anything", "a"), ("every", "nothing", "b"), ("thing", "Ann", "anything"), ("every", "c", "c"))
        self.assertEqual(desk.table(), [("Ann", "a"), ("b", "a"), ("c", "a")])

    def test_names_within_kinds_and_no_ties(self):
        desk = desk_of(("every", ("both", "a", "b"), ("some", "d", "c")), ("every", "a", "b"), ("within", "e", "a"))
        self.assertEqual(desk.table(), [("a", "b")])
        self.assertEqual(desk.put(("every", "anything", "c"))[1], [("a", "c"), ("b", "c")])

    def test_names_that_the_plain_form_does_not_have(self):
        desk = desk_of(("every", "a", "b"), ("every", ("both", "c", "nothing"), "d"), ("thing", "Ann", ("both", "a", "anything")))
        self.assertEqual(desk.said()[1], (2, ("every", "nothing", "d")))
        self.assertEqual(desk.table(), [("Ann", "a"), ("Ann", "b"), ("a", "b")])
        desk.put(("every", "a", "nothing"))
        self.assertEqual({pair[0] for pair in desk.table()}, {"Ann", "a", "b", "d"})

    def test_a_clash_lets_all_come(self):
        desk = desk_of(("every", "a", "b"), ("thing", "Ann", "a"), ("tied", "Ann", "r", "Bob"))
        number, came = desk.put(("no", "a", "b"))
        self.assertEqual(number, 4)
        self.assertEqual(came, [("Ann", "nothing"), ("Bob", "a"), ("Bob", "b"), ("Bob", "nothing"), ("a", "nothing"),
                                ("b", "a"), ("b", "nothing")])
        self.assertEqual(desk.table(), slow_table(desk.said()))
        self.assertEqual(desk.take(4), came)

    def test_a_taking_out_that_lets_nothing_fall(self):
        desk = desk_of(("every", "a", "b"), ("every", "a", "b"), ("within", "r", "s"), ("every", "b", "c"), ("every", "a", "c"))
        self.assertEqual(desk.take(1), [])
        self.assertEqual(desk.take(3), [])
        self.assertEqual(desk.take(5), [])
        self.assertEqual(desk.take(2), [("a", "b"), ("a", "c")])
        self.assertEqual(desk.take(4), [("b", "c")])

    def test_pairs_fall_with_their_names(self):
        desk = desk_of(("every", "anything", "a"), ("tied", "Ann", "r", "Bob"), ("thing", "Ann", "b"))
        self.assertEqual(desk.take(2), [("Bob", "a")])
        self.assertEqual(desk.take(3), [("Ann", "a"), ("Ann", "b"), ("b", "a")])

    def test_by_the_order_of_texts(self):
        desk = desk_of(("every", "ab", "a"), ("every", "a", "aab"), ("thing", "Zed", "ab"), ("thing", "Al", "aab"), ("every", "b", "nothing"))
        self.assertEqual(desk.table(), [("Al", "aab"), ("Zed", "a"), ("Zed", "aab"), ("Zed", "ab"), ("a", "aab"), ("ab", "a"), ("ab", "aab"),
                                        ("b", "a"), ("b", "aab"), ("b", "ab"), ("b", "nothing")])

    def test_drawn_desks(self):
        source = random.Random(2727)
        for turn in range(120):
            desk, before = Desk(), []
            for at in range(12):
                if desk.said() and source.random() < 0.35:
                    told = desk.take(source.choice(desk.said())[0])
                    after = slow_table(desk.said())
                    self.assertEqual(told, [pair for pair in before if pair not in after])
                else:
                    number, told = desk.put(drawn_saying(source))
                    self.assertEqual(desk.said()[-1][0], number)
                    after = slow_table(desk.said())
                    self.assertEqual(told, [pair for pair in after if pair not in before])
                self.assertIsInstance(told, list)
                self.assertEqual(desk.table(), after)
                before = after


class Asker(Asked):
    def test_what_is_told_does_not_change_and_changes_nothing(self):
        desk = desk_of(("every", "a", "b"), ("thing", "Ann", "a"))
        said, table = desk.said(), desk.table()
        kept = copy.deepcopy((said, table))
        came = desk.put(("every", "b", "c"))[1]
        self.assertEqual((said, table), kept)
        wanted = state(desk)
        for told in [said, table, came, desk.said(), desk.table()]:
            told.clear()
            told.append((9, "spoiled"))
        self.assertEqual(state(desk), wanted)
        desk.take(3).append("spoiled")
        self.assertEqual((desk.said(), desk.table()), kept)
        for turn in range(2):
            for asked in [desk.least, desk.cuts]:
                lists = asked(("thing", "Ann", "b"), 5)[0]
                self.assertIn(lists, [[[1, 2]], [[1], [2]]])
                for one in lists:
                    one.append(9)
                lists.clear()
            steps = desk.ask(("thing", "Ann", "b"))[1]
            self.assertEqual(steps[-1][0], ("is", "Ann", "b"))
            for step in steps:
                step[2].append(5)
            steps.clear()
            world = desk.ask(("every", "b", "a"))[1]
            self.assertFalse(keeps(world, ("every", "b", "a")))
            for table in world[1:]:
                table.clear()
        self.assertEqual((desk.said(), desk.table()), kept)

    def test_asking_changes_nothing(self):
        desk = desk_of(("every", "a", ("some", "r", "b")), ("thing", "Ann", "a"))
        before = state(desk)
        question = ("thing", "Ann", ("some", "r", "anything"))
        for turn in range(2):
            self.assertTrue(self.certain(desk, question))
            desk.least(question, 3)
            desk.cuts(question, 3)
            self.assertEqual(state(desk), before)
        self.assertEqual(question, ("thing", "Ann", ("some", "r", "anything")))


class Answers(Asked):
    def test_as_answer_and_least_tell(self):
        desk = desk_of(("every", "a", "b"), ("every", "b", "c"), ("every", "a", "c"))
        pairs = desk.said()
        for question in [("every", "a", "c"), ("every", "c", "a"), ("thing", "Ann", "a"), ("no", "a", "nothing")]:
            self.assertEqual(desk.ask(question), answer(pairs, question))
            for most in [0, 1, 2, 9]:
                self.assertEqual(desk.least(question, most), least(pairs, question, most))
                self.assertEqual(desk.cuts(question, most), cuts(pairs, question, most))

    def test_behind_puttings_in_and_takings_out(self):
        source = random.Random(2828)
        for turn in range(60):
            desk = Desk()
            for at in range(16):
                if desk.said() and source.random() < 0.4:
                    desk.take(source.choice(desk.said())[0])
                else:
                    desk.put(drawn_saying(source))
            left = desk.said()
            fresh = desk_of(*[saying for number, saying in left])
            turned = {at: number for at, (number, saying) in enumerate(left, 1)}
            self.assertEqual([(turned[number], saying) for number, saying in fresh.said()], left)
            self.assertEqual(fresh.table(), desk.table())
            for at in range(4):
                question = drawn_question(source, things=["Ann", "Bob", "Zed"])
                self.assertIs(self.certain(desk, question), self.certain(fresh, question))
                if len(left) <= 12:
                    for one, other in [(desk.least, fresh.least), (desk.cuts, fresh.cuts)]:
                        lists, are_all = other(question, 9999)
                        self.assertEqual(one(question, 9999), ([[turned[number] for number in numbers] for numbers in lists], are_all))

    def test_the_promise_of_the_whole(self):
        source = random.Random(303)
        for turn in range(60):
            desk = desk_of(*[saying for number, saying in drawn_pairs(source, 6)])
            question = drawn_question(source)
            told = self.certain(desk, question)
            found = desk.least(question, 99)
            self.assertIs(bool(found[0]), told)
            for numbers in found[0]:
                chosen = [pair for pair in desk.said() if pair[0] in numbers]
                for choice in all_choices(chosen):
                    self.assertIs(follows(choice, plain_saying(question)), choice == chosen)


class Bounds(Asked):
    def test_sixty_sayings_with_two_hundred_tuples(self):
        desk = Desk()
        rows = []
        for letter in "abcdefgh":
            kind = "l" + letter
            for at in range(24):
                kind = ("some", "r", kind) if at % 2 else ("both", "k" + "abcdefghijklmnop"[at % 16], kind)
            rows.append(("every", "h" + letter, kind))
        rows += [("every", ("some", "r", "m" + letter), ("some", "s", "z")) for letter in "abcd"]
        rows += [("every", "m" + chr(97 + at), "m" + chr(98 + at)) for at in range(20)]
        rows += [("thing", "T" + chr(97 + at), "m" + chr(97 + at)) for at in range(20)]
        rows += [("tied", "Ta", "r", "T" + chr(97 + at)) for at in range(6)] + [("makes", "r", "r", "r"), ("every", "mu", "ha")]
        self.assertEqual(len(rows), 60)
        for at, saying in enumerate(rows, 1):
            self.assertEqual(desk.put(saying)[0], at)
        table = desk.table()
        for pair in [("Ta", "mu"), ("Tt", "ha"), ("ma", "mu"), ("mc", "ha")]:
            self.assertIn(pair, table)
        self.assertNotIn(("mu", "ma"), table)
        self.assertTrue(self.certain(desk, ("thing", "Ta", ("some", "s", "z"))))
        self.assertFalse(self.certain(desk, ("thing", "Ta", ("some", "s", "y"))))
        self.assertEqual(desk.take(60), [pair for pair in table if pair[1] == "ha"])


if __name__ == "__main__":
    unittest.main()
