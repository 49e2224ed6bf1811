"""Points [4], [5], [6], [10], [11]: sayings as texts."""

import copy
import itertools
import random
import re
import string
import unittest

from kinwords.errors import NoText
from kinwords.texts import read, show

TAKEN = ["anything", "nothing", "every", "no", "is", "tie", "within", "then", "makes", "both", "some"]
SIGNS = [chr(code) for code in range(32, 127)]

# One saying of each form, and its writing.
SIX = [
    (("every", "dog", "pet"), "every dog is pet"),
    (("no", "dog", "cat"), "no dog is cat"),
    (("thing", "Ann", "happy"), "Ann is happy"),
    (("tied", "Ann", "owns", "Rex"), "Ann owns Rex"),
    (("within", "owns", "has"), "tie owns within has"),
    (("makes", "owns", "has", "holds"), "tie owns then has makes holds"),
]

MORE = [
    (("every", ("some", "owns", ("both", "dog", "small")), "happy"),
     "every (some owns (both dog small)) is happy"),
    (("every", "anything", "nothing"), "every anything is nothing"),
    (("every", "dog", ("some", "owns", "anything")), "every dog is (some owns anything)"),
    (("every", "a", "a"), "every a is a"),
    (("no", ("both", "a", "b"), ("some", "r", "nothing")), "no (both a b) is (some r nothing)"),
    (("no", "nothing", "anything"), "no nothing is anything"),
    (("thing", "Ann", ("both", "small", ("some", "owns", "dog"))), "Ann is (both small (some owns dog))"),
    (("thing", "A", "anything"), "A is anything"),
    (("thing", "Z", "nothing"), "Z is nothing"),
    (("tied", "A", "a", "A"), "A a A"),
    (("tied", "Is", "iss", "Tie"), "Is iss Tie"),
    (("thing", "Every", "ties"), "Every is ties"),
    (("within", "r", "r"), "tie r within r"),
    (("makes", "r", "r", "r"), "tie r then r makes r"),
    (("every", "thing", "tied"), "every thing is tied"),
    (("within", "dog", "cat"), "tie dog within cat"),
    (("thing", "Abcdefghijkl", "abcdefghijkl"), "Abcdefghijkl is abcdefghijkl"),
    (("every", ("some", "dog", "dog"), "dog"), "every (some dog dog) is dog"),
]


def nested(many):
    """Kinds with so many tuples: to the left, to the right, through ties, and mixed."""
    left = right = chain = mixed = "a"
    for at in range(many):
        left = ("both", left, "b")
        right = ("both", "b", right)
        chain = ("some", "r", chain)
        mixed = ("some", "r", mixed) if at % 2 else ("both", mixed, "anything")
    return [left, right, chain, mixed]


def random_kind(source, tuples):
    if tuples == 0:
        return source.choice(["a", "dog", "anything", "nothing", "iss", "wit"])
    if source.random() < 0.5:
        return ("some", source.choice(["r", "dog", "ties"]), random_kind(source, tuples - 1))
    left = source.randrange(tuples)
    return ("both", random_kind(source, left), random_kind(source, tuples - 1 - left))


def random_saying(source):
    form = source.choice(["every", "no", "thing", "tied", "within", "makes"])
    ties = [source.choice(["r", "dog", "ties"]) for at in range(3)]
    kinds = [random_kind(source, source.choice([0, 0, 1, 2, 5, 24])) for at in range(2)]
    things = [source.choice(["Ann", "R", "Is", "Dog"]) for at in range(2)]
    if form in ("every", "no"):
        return (form, kinds[0], kinds[1])
    if form == "thing":
        return (form, things[0], kinds[0])
    if form == "tied":
        return (form, things[0], ties[0], things[1])
    if form == "within":
        return (form, ties[0], ties[1])
    return (form, ties[0], ties[1], ties[2])


class Show(unittest.TestCase):
    def test_writings(self):
        for saying, text in SIX + MORE:
            self.assertEqual(show(saying), text)

    def test_many_tuples(self):
        left, right, chain, mixed = nested(24)
        text = "(both " * 24 + "a" + " b)" * 24
        other = "(some r " * 24 + "a" + ")" * 24
        self.assertEqual(show(("every", left, chain)), f"every {text} is {other}")
        self.assertEqual(show(("no", chain, left)), f"no {other} is {text}")
        self.assertEqual(show(("thing", "Ann", left)), f"Ann is {text}")

    def test_a_saying_beyond_the_bound_is_written_too(self):
        self.assertEqual(show(("thing", "Ann", nested(30)[2])), "Ann is " + "(some r " * 30 + "a" + ")" * 30)

    def test_what_is_handed_in_is_as_it_was(self):
        for saying, text in SIX + MORE:
            before = copy.deepcopy(saying)
            show(saying)
            self.assertEqual(saying, before)


class Read(unittest.TestCase):
    def refuse(self, text):
        with self.assertRaises(NoText, msg=repr(text)) as caught:
            read(text)
        self.assertIs(type(caught.exception), NoText)

    def test_writings(self):
        for saying, text in SIX + MORE:
            told = read(text)
            self.assertEqual(told, saying)
            self.assertIs(type(told), tuple)

    def test_random_sayings_are_read_to_the_same(self):
        source = random.Random(5)
        for at in range(2000):
            saying = random_saying(source)
            self.assertEqual(read(show(saying)), saying)

    def test_a_thing_s_saying_and_two_tied_things_are_kept_apart(self):
        self.assertEqual(read("Ann is rex"), ("thing", "Ann", "rex"))
        self.assertEqual(read("Ann owns Rex"), ("tied", "Ann", "owns", "Rex"))
        for text in ["Ann is Rex", "Ann owns rex", "Ann owns anything", "Ann owns (both a b)", "Ann (some r a) Rex"]:
            self.refuse(text)

    def test_twenty_four_tuples_in_either_place(self):
        for many in [23, 24]:
            for kind, other in itertools.product(nested(many), nested(24)):
                for saying in [("every", kind, other), ("no", other, kind), ("every", kind, "a"), ("no", "a", kind),
                               ("thing", "Ann", kind)]:
                    self.assertEqual(read(show(saying)), saying)

    def test_twenty_five_tuples_in_either_place(self):
        for many in [25, 26, 36, 60]:
            for kind in nested(many):
                for saying in [("every", kind, "a"), ("every", "a", kind), ("no", kind, "a"), ("no", "a", kind),
                               ("thing", "Ann", kind)]:
                    self.refuse(show(saying))
        for kind, other in itertools.product(nested(25), nested(24)):
            self.refuse(show(("every", kind, other)))
            self.refuse(show(("every", other, kind)))
            self.refuse(show(("no", kind, other)))
            self.refuse(show(("no", other, kind)))

    def test_no_sign_and_blanks_alone(self):
        for text in ["", " ", "  ", "   ", "(", ")", "()"]:
            self.refuse(text)

    def test_a_blank_too_many_or_too_few(self):
        for saying, text in SIX + MORE:
            self.refuse(" " + text)
            self.refuse(text + " ")
            for at, sign in enumerate(text):
                if sign == " ":
                    self.refuse(text[:at] + " " + text[at:])
                    self.refuse(text[:at] + "\t" + text[at + 1:])
                    self.refuse(text[:at] + "\n" + text[at + 1:])
        for saying, text in SIX:
            for at, sign in enumerate(text):
                if sign == " ":
                    self.refuse(text[:at] + text[at + 1:])
        for text in ["every(both a b) is c", "every (both a b)is c", "every a is(both a b)", "Ann is(both a b)",
                     "every ( both a b) is c", "every (both a b ) is c", "no a is ( some r b)"]:
            self.refuse(text)

    def test_a_word_missing(self):
        for saying, text in SIX:
            words = text.split(" ")
            for at in range(len(words)):
                self.refuse(" ".join(words[:at] + words[at + 1:]))
            for many in range(len(words)):
                self.refuse(" ".join(words[:many]))
                self.refuse(" ".join(words[:many]) + " ")

    def test_a_word_too_many(self):
        for saying, text in SIX:
            words = text.split(" ")
            for extra in ["a", "Ann", "(both a b)"] + TAKEN:
                for at in range(len(words) + 1):
                    self.refuse(" ".join(words[:at] + [extra] + words[at:]))

    def test_words_in_a_wrong_place(self):
        for saying, text in SIX:
            words = text.split(" ")
            for row in itertools.permutations(words):
                other = " ".join(row)
                if is_written(other):
                    self.assertEqual(show(read(other)), other)
                else:
                    self.refuse(other)
        for text in ["dog every is pet", "is every dog pet", "every is dog pet", "dog is pet", "owns Ann Rex",
                     "Ann Rex owns", "is Ann happy", "Ann happy is", "within tie owns has", "owns tie within has",
                     "tie within owns has", "tie owns makes has then holds", "tie owns then has within holds",
                     "tie owns within has makes holds", "tie owns makes has", "tie owns then has",
                     "every Ann is dog", "every dog is Ann", "no Ann is Rex", "tie Ann within owns", "tie owns is has",
                     "some dog is pet", "Every dog is pet", "No dog is pet", "Tie owns within has", "Ann Is dog",
                     "every dog Is pet", "EVERY dog is pet"]:
            self.refuse(text)

    def test_brackets(self):
        for text in ["every (dog) is pet", "(every dog is pet)", "every (dog is pet)", "every dog is (pet)",
                     "every (both a b is c", "every both a b) is c", "every both a b is c", "every (both a b)) is c",
                     "every ((both a b) is c", "every a is (both b c", "every a is both b c)", "no a is (both b c))",
                     "Ann is (both a b", "Ann is both a b", "Ann is (both a b))", "Ann is ((both a b))",
                     "(Ann) is a", "(Ann is a)", "Ann (owns) Rex", "(Ann owns Rex)", "tie (r) within s",
                     "(tie r within s)", "tie r (within) s", "tie r then (s makes t)", "tie (both a b) within s",
                     "tie r within (some r s)", "(both a b)", "(some r a)", "a"]:
            self.refuse(text)

    def test_names_that_are_not_allowed(self):
        long = "abcdefghijklm"
        for word in [long, "cAt", "cat2", "2", "c_t", "c-t", "caf\u00e9", "", "a.", "A2", "AB", "Ann2", "A" + long[1:]]:
            for saying, text in SIX:
                words = text.split(" ")
                for at in range(len(words)):
                    self.refuse(" ".join(words[:at] + [word] + words[at + 1:]))

    def test_a_thing_s_name_where_a_kind_s_or_a_tie_s_is_due_and_the_other_way_round(self):
        for text in ["every Dog is pet", "every dog is Pet", "no Dog is cat", "no dog is Cat", "Ann is Happy",
                     "ann is happy", "ann owns Rex", "Ann owns rex", "ann owns rex", "Ann Owns Rex",
                     "tie Owns within has", "tie owns within Has", "tie Owns then has makes holds",
                     "tie owns then Has makes holds", "tie owns then has makes Holds",
                     "every (both Dog a) is b", "every (some Owns a) is b", "Ann is (some owns Rex)"]:
            self.refuse(text)

    def test_taken_words_where_a_name_is_due(self):
        for word in TAKEN:
            if word not in ("anything", "nothing"):
                for text in ["every {} is pet", "every dog is {}", "no {} is cat", "no dog is {}", "Ann is {}",
                             "every (both {} a) is b", "every (some r {}) is b", "Ann is (both a {})"]:
                    self.refuse(text.format(word))
            for text in ["{} is happy", "{} owns Rex", "Ann owns {}", "tie {} within has", "tie owns within {}",
                         "tie {} then has makes holds", "tie owns then {} makes holds", "tie owns then has makes {}",
                         "every (some {} a) is b", "Ann is (some {} a)"]:
                self.refuse(text.format(word))
            if word != "is":
                self.refuse(f"Ann {word} Rex")
            self.refuse(word)

    def test_each_single_change_of_a_text(self):
        texts = [text for saying, text in SIX] + ["every (some r a) is b", "Ann is (both a b)", "A r B", "no a is b",
                                                  "A is a", "tie r within s", "tie r then s makes t"]
        for text in texts:
            changed = [text[:at] + text[at + 1:] for at in range(len(text))]
            for sign in SIGNS:
                changed.extend([text[:at] + sign + text[at:] for at in range(len(text) + 1)])
                changed.extend([text[:at] + sign + text[at + 1:] for at in range(len(text))])
            for other in changed:
                self.check_by_writing(other)

    def test_all_short_rows_of_words(self):
        words = ["every", "no", "is", "tie", "within", "then", "makes", "a", "A", ""]
        for many in range(6):
            for row in itertools.product(words, repeat=many):
                self.check_by_writing(" ".join(row))

    def test_rows_of_six_words(self):
        for row in itertools.product(["tie"], ["a", "is"], ["then", "within"], ["a", "A"], ["makes", "then"],
                                     ["a", "tie", "", "A"]):
            self.check_by_writing(" ".join(row))
            self.check_by_writing(" ".join(row) + " a")

    def check_by_writing(self, text):
        if is_written(text):
            self.assertEqual(show(read(text)), text)
        else:
            self.refuse(text)


def is_written(text):
    """Whether a text writes a saying, found by putting one sign for ever greater parts of it."""
    if not set(text) <= set(string.ascii_letters + "( )"):
        return False

    def mark(found):
        word = found.group()
        if word in ("anything", "nothing"):
            return "K"
        if word in TAKEN:
            return word
        if len(word) > 12:
            return "!"
        if word.islower():
            return "N"
        return "T" if word[1:] == word[1:].lower() else "!"

    text = re.sub("[a-zA-Z]+", mark, text)
    before = None
    while text != before:
        before = text
        text = re.sub(r"\((both [NK]|some N) [NK]\)", "K", text)
    return re.fullmatch("(every|no) [NK] is [NK]|T is [NK]|T N T|tie N within N|tie N then N makes N", text) is not None


if __name__ == "__main__":
    unittest.main()
