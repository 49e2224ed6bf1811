"""Points [29] and [30]: the clerk."""

import random
import unittest

from helper import drawn_question, drawn_saying
from kinwords.answers import answer
from kinwords.clerk import Clerk
from kinwords.desk import Desk
from kinwords.errors import KinError, NoQuestion, NoRow, NoSaying, NoText, TooMany
from kinwords.texts import show


class Asked(unittest.TestCase):
    def clerk(self, *rows):
        clerk = Clerk()
        for row in rows:
            clerk.say(row)
        return clerk

    def tell(self, clerk, row, wanted):
        told = clerk.say(row)
        self.assertIsInstance(told, str)
        self.assertEqual(told, wanted, row)

    def refuse(self, clerk, row, error):
        before = (clerk.say("said"), clerk.say("table"))
        with self.assertRaises(KinError) as caught:
            clerk.say(row)
        self.assertIs(caught.exception.__class__, error, row)
        self.assertEqual((clerk.say("said"), clerk.say("table")), before)
        return caught.exception


class Rows(Asked):
    def test_put(self):
        clerk = Clerk()
        self.tell(clerk, "put every cat is pet", "1 cat>pet")
        self.tell(clerk, "put tie owns within has", "2")
        self.tell(clerk, "put every pet is (some has (both small pet))", "3")
        self.tell(clerk, "put Ann is cat", "4 Ann>cat Ann>pet")
        self.tell(clerk, "put no cat is pet", "5 Ann>nothing Ann>small cat>nothing cat>small pet>cat pet>nothing pet>small"
                                              " small>cat small>nothing small>pet")

    def test_put_of_each_form(self):
        clerk = Clerk()
        for at, saying in enumerate(["every a is b", "no a is c", "Ann is a", "Ann r Bob", "tie r within s", "tie r then s makes t"], 1):
            self.assertEqual(clerk.say(f"put {saying}").split(" ")[0], str(at))
        self.tell(clerk, "said", "1: every a is b; 2: no a is c; 3: Ann is a; 4: Ann r Bob; 5: tie r within s; 6: tie r then s makes t")

    def test_take(self):
        clerk = self.clerk("put every a is b", "put tie r within s", "put Ann is a")
        self.tell(clerk, "take 2", "none")
        self.tell(clerk, "take 1", "Ann>b a>b")
        self.tell(clerk, "take 3", "Ann>a")
        self.tell(clerk, "put Ann is a", "4 Ann>a")
        self.tell(clerk, "take 4", "Ann>a")
        self.tell(clerk, "said", "none")

    def test_ask(self):
        clerk = self.clerk("put every a is b", "put Ann is a", "put Ann r Ann")
        for question, wanted in [("every a is b", "yes"), ("every b is a", "no"), ("Ann is b", "yes"), ("Bob is b", "no"),
                                 ("Ann r Ann", "yes"), ("Ann s Ann", "no"), ("no a is nothing", "yes"), ("no a is b", "no"),
                                 ("Ann is (some r (both b a))", "yes")]:
            self.tell(clerk, f"ask {question}", wanted)

    def test_steps(self):
        clerk = self.clerk("put every a is b", "put Ann is a", "put Bob is nothing")
        clerk.say("take 3")
        for question in ["every a is b", "Ann is b", "Ann is (both a b)", "every nothing is z", "no a is nothing"]:
            told = clerk.say(f"steps {question}")
            self.assertRegex(told, r"\A[1-9][0-9]*\Z")
        # A thing, or a kind, has to be told first, and each saying takes a step.
        for question in ["Ann is b", "every a is b", "every nothing is z"]:
            self.assertGreaterEqual(int(clerk.say(f"steps {question}")), 2)
        self.tell(clerk, "steps every b is a", "no")
        self.tell(clerk, "steps Zed is anything", "no")

    def test_least_and_cuts(self):
        clerk = self.clerk("put every a is b", "put every a is c", "put every b is c", "put tie r within s")
        for row, wanted in [
                ("least 5 every a is c", "(2) (1 3)"), ("least 2 every a is c", "(2) (1 3)"), ("least 0 every a is c", "more"),
                ("cuts 5 every a is c", "(1 2) (2 3)"), ("cuts 2 every a is c", "(1 2) (2 3)"), ("cuts 0 every a is c", "more"),
                ("least 1 every a is a", "()"), ("least 9 every a is a", "()"), ("least 0 every a is a", "more"),
                ("cuts 1 every a is a", "none"), ("cuts 0 every a is a", "none"), ("cuts 999999999 every a is a", "none"),
                ("least 1 every c is a", "none"), ("least 0 every c is a", "none"), ("cuts 1 every c is a", "()"),
                ("cuts 0 every c is a", "more"), ("cuts 999999999 every c is a", "()"), ("least 1 every b is c", "(3)")]:
            self.tell(clerk, row, wanted)
        self.assertIn(clerk.say("least 1 every a is c"), ["(2) more", "(1 3) more"])
        self.assertIn(clerk.say("cuts 1 every a is c"), ["(1 2) more", "(2 3) more"])

    def test_one_and_more(self):
        clerk = self.clerk("put every a is b", "put every a is b")
        self.assertIn(clerk.say("least 1 every a is b"), ["(1) more", "(2) more"])
        self.tell(clerk, "least 2 every a is b", "(1) (2)")
        self.tell(clerk, "cuts 1 every a is b", "(1 2)")

    def test_least_and_cuts_at_an_empty_desk(self):
        for row, wanted in [("least 1 every a is a", "()"), ("cuts 1 every a is a", "none"), ("least 1 Ann is a", "none"), ("cuts 1 Ann is a", "()")]:
            self.tell(Clerk(), row, wanted)

    def test_table_and_said(self):
        clerk = Clerk()
        self.tell(clerk, "table", "none")
        self.tell(clerk, "said", "none")
        clerk.say("put tie r within s")
        self.tell(clerk, "table", "none")
        self.tell(clerk, "said", "1: tie r within s")
        clerk.say("put Ann is (both (both small cat) (both cat anything))")
        clerk.say("put every cat is pet")
        self.tell(clerk, "table", "Ann>cat Ann>pet Ann>small cat>pet")
        self.tell(clerk, "said", "1: tie r within s; 2: Ann is (both cat small); 3: every cat is pet")

    def test_two_clerks(self):
        one, other = Clerk(), Clerk()
        one.say("put every a is b")
        self.tell(other, "said", "none")
        self.tell(other, "put Ann is a", "1 Ann>a")
        self.tell(one, "said", "1: every a is b")


HEADS_OF_SAYING = ["put", "ask", "steps", "least 3", "cuts 3"]
NUMBERS = ["1", "0", "7", "10", "999999999", "100000000"]
NO_NUMBERS = ["", "00", "01", "007", "1234567890", "0000000001", "1000000000", "+1", "-1", "-0", "1.0", "1e2", "x", "one", "1_0", "0x1", "1,", "(1)"]


class NoRows(Asked):
    def setUp(self):
        self.desk = self.clerk("put every a is b", "put Ann is a")

    def test_first_words_of_another_kind(self):
        for row in ["", " ", "  ", "foo", "foo every a is b", "every a is b", "puts every a is b", "pu every a is b", "Put every a is b",
                    "PUT every a is b", "put:every a is b", " put every a is b", " table", " said", " take 1", "Table", "SAID", "tables",
                    "saids", "answer", "1", "take1", "least", "putevery a is b", "asks every a is b", "step every a is b", "Take 1",
                    "Least 1 every a is b", "CUTS 1 every a is b", "cut 1 every a is b", "yes", "none", "clerk"]:
            self.refuse(self.desk, row, NoRow)

    def test_no_blank_ahead_of_the_saying(self):
        for head in HEADS_OF_SAYING + ["least 0", "cuts 999999999", "least", "cuts"]:
            self.refuse(self.desk, head, NoRow)

    def test_numbers_that_are_not_so(self):
        for word in NO_NUMBERS:
            self.refuse(self.desk, f"take {word}", NoRow)
            for head in ["least", "cuts"]:
                self.refuse(self.desk, f"{head} {word} every a is b", NoRow)
                self.refuse(self.desk, f"{head} {word} nonsense", NoRow)
        for head in ["least", "cuts"]:
            self.refuse(self.desk, f"{head} every a is b", NoRow)
            self.refuse(self.desk, f"{head}  1 every a is b", NoRow)
        self.refuse(self.desk, "take", NoRow)

    def test_something_behind(self):
        for row in ["table ", "table x", "table 1", "said ", "said  ", "said 1", "said every a is b", "take 1 ", "take 1 2", "take 1 every a is b",
                    "take  1", "take 1x", "take 9 "]:
            self.refuse(self.desk, row, NoRow)

    def test_no_row_ahead_of_all_else(self):
        many = self.clerk(*["put every a is b"] * 13)
        for row in ["least 01 every a is b", "cuts x tie r within s", "least -1 nonsense", "take 099", "take 0 ", "least  nonsense", "cuts 1"]:
            self.refuse(many, row, NoRow)


class Texts(Asked):
    WRONG = ["", " ", " every a is b", "every a is b ", "every  a is b", "every a is", "a is b", "Ann", "Ann is", "every a b", "no", "tie r within",
             "nonsense", "Every a is b", "every A is b", "ann is b", "every (both a) is b", "every " + "(some r " * 25 + "a" + ")" * 25 + " is b",
             "put every a is b", "1 every a is b"]

    def test_wrong_sayings(self):
        clerk = self.clerk("put every a is b")
        for head in HEADS_OF_SAYING + ["least 0", "cuts 0"]:
            for text in self.WRONG:
                self.refuse(clerk, f"{head} {text}", NoText)

    def test_no_text_ahead_of_the_others(self):
        clerk = self.clerk(*["put every a is b"] * 13)
        for text in self.WRONG:
            for head in ["least 1", "cuts 1"]:
                self.refuse(clerk, f"{head} {text}", NoText)

    def test_a_kind_of_twenty_four_tuples(self):
        kind = "(some r " * 24 + "a" + ")" * 24
        clerk = self.clerk(f"put every b is {kind}")
        self.tell(clerk, f"ask every b is {kind}", "yes")
        self.tell(clerk, f"ask no b is {kind}", "no")
        self.tell(clerk, f"least 3 every (both b c) is {kind}", "(1)")
        self.tell(clerk, "said", f"1: every b is {kind}")


class Others(Asked):
    def test_no_saying(self):
        clerk = self.clerk("put every a is b", "put every b is c")
        clerk.say("take 1")
        for word in ["0", "1", "3", "999999999", "100000000"]:
            self.assertEqual(self.refuse(clerk, f"take {word}", NoSaying).number, int(word))
        self.tell(clerk, "put every a is b", "3 a>b a>c")

    def test_no_question(self):
        clerk = self.clerk("put tie r within s")
        for head in ["ask", "steps", "least 0", "least 3", "cuts 0", "cuts 3"]:
            for text in ["tie r within s", "tie r then s makes t"]:
                self.refuse(clerk, f"{head} {text}", NoQuestion)

    def test_too_many(self):
        clerk = self.clerk(*["put every a is b"] * 12)
        self.tell(clerk, "cuts 1 every a is b", "(1 2 3 4 5 6 7 8 9 10 11 12)")
        clerk.say("put every a is b")
        for head in ["least 0", "least 3", "cuts 0", "cuts 3"]:
            for text in ["every a is b", "tie r within s", "every b is a"]:
                self.refuse(clerk, f"{head} {text}", TooMany)
        self.tell(clerk, "ask every a is b", "yes")

    def test_what_is_refused_takes_no_number(self):
        clerk = Clerk()
        for row in ["put", "put ", "put nonsense", "take 1", "ask tie r within s", "put  every a is b"]:
            with self.assertRaises(KinError):
                clerk.say(row)
        self.tell(clerk, "put every a is b", "1 a>b")


def pairs_text(pairs):
    return " ".join(f"{x}>{kind}" for x, kind in pairs)


def lists_text(told):
    lists, are_all = told
    words = ["(" + " ".join(map(str, numbers)) + ")" for numbers in lists] + [[], ["more"]][not are_all]
    return " ".join(words) or "none"


class Drawn(Asked):
    def test_a_clerk_tells_what_a_desk_tells(self):
        source = random.Random(2929)
        for turn in range(80):
            clerk, desk = Clerk(), Desk()
            for at in range(12):
                if desk.said() and source.random() < 0.35:
                    number = source.choice(desk.said())[0]
                    self.tell(clerk, f"take {number}", pairs_text(desk.take(number)) or "none")
                else:
                    saying = drawn_saying(source)
                    number, came = desk.put(saying)
                    self.tell(clerk, f"put {show(saying)}", f"{number} {pairs_text(came)}".strip())
                question = drawn_question(source)
                text, told = show(question), desk.ask(question)
                self.tell(clerk, f"ask {text}", {"follows": "yes", "fails": "no"}[told[0]])
                count = clerk.say(f"steps {text}")
                self.assertEqual(count, str(len(told[1])) if told[0] == "follows" else "no")
                most = source.randrange(4)
                self.tell(clerk, f"least {most} {text}", lists_text(desk.least(question, most)))
                self.tell(clerk, f"cuts {most} {text}", lists_text(desk.cuts(question, most)))
                self.tell(clerk, "table", pairs_text(desk.table()) or "none")
                self.tell(clerk, "said", "; ".join(f"{number}: {show(saying)}" for number, saying in desk.said()) or "none")

    def test_steps_of_a_right_answer(self):
        clerk = self.clerk("put every a is (some r b)", "put every (some r anything) is c")
        steps = answer([(1, ("every", "a", ("some", "r", "b"))), (2, ("every", ("some", "r", "anything"), "c"))], ("every", "a", "c"))[1]
        self.tell(clerk, "steps every a is c", str(len(steps)))


if __name__ == "__main__":
    unittest.main()
