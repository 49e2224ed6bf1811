"""Points [4], [5], [10], [11]: names, and kinds as texts."""

import itertools
import re
import string
import unittest

from kinwords.errors import NoText
from kinwords.words import is_name, is_thing, read_kind, show_kind

TAKEN = ["anything", "nothing", "every", "no", "is", "tie", "within", "then", "makes", "both", "some"]
SIGNS = [chr(code) for code in range(32, 127)]
# Beyond the promised signs, but a name has none of them either.
STRANGE = ["\n", "\t", "\u00e9", "\u0430", "\u00df", "\u00c9"]


class Names(unittest.TestCase):
    def test_lengths(self):
        self.assertIs(is_name(""), False)
        for many in range(1, 13):
            self.assertIs(is_name("q" * many), True)
        for many in [13, 14, 100]:
            self.assertIs(is_name("q" * many), False)
        self.assertIs(is_name("abcdefghijkl"), True)
        self.assertIs(is_name("abcdefghijklm"), False)

    def test_each_small_letter(self):
        for letter in string.ascii_lowercase:
            self.assertIs(is_name(letter), True)

    def test_taken_words(self):
        for word in TAKEN:
            self.assertIs(is_name(word), False, word)
            self.assertIs(is_name(word + "s"), True, word)
            self.assertIs(is_name("s" + word), True, word)
            self.assertIs(is_name(word[:-1] or "a"), True, word)

    def test_words_of_the_program_that_are_free(self):
        for word in ["thing", "tied", "has", "put", "take", "all", "self", "void"]:
            self.assertIs(is_name(word), True, word)

    def test_other_signs(self):
        for sign in SIGNS + STRANGE:
            if sign in string.ascii_lowercase:
                continue
            for text in [sign, sign + "cat", "cat" + sign, "ca" + sign + "t"]:
                self.assertIs(is_name(text), False, text)


class Things(unittest.TestCase):
    def test_lengths(self):
        self.assertIs(is_thing(""), False)
        for many in range(0, 12):
            self.assertIs(is_thing("A" + "n" * many), True)
        for many in [12, 13, 100]:
            self.assertIs(is_thing("A" + "n" * many), False)

    def test_each_great_letter(self):
        for letter in string.ascii_uppercase:
            self.assertIs(is_thing(letter), True)
            self.assertIs(is_thing(letter + "nn"), True)

    def test_taken_words_with_a_great_letter(self):
        for word in TAKEN:
            self.assertIs(is_thing(word.capitalize()), True, word)
            self.assertIs(is_thing(word), False, word)

    def test_letters_at_wrong_places(self):
        for text in ["AN", "ANn", "AnN", "AnNa", "ann", "aNn", "a", "annA"]:
            self.assertIs(is_thing(text), False, text)

    def test_other_signs(self):
        for sign in SIGNS + STRANGE:
            if sign in string.ascii_letters:
                continue
            for text in [sign, sign + "nn", sign + "Ann", "Ann" + sign, "An" + sign + "n", "A" + sign]:
                self.assertIs(is_thing(text), False, text)

    def test_strange_great_letters(self):
        for sign in STRANGE:
            self.assertIs(is_thing("A" + sign), False)

    def test_no_thing_is_a_name(self):
        for text in ["Ann", "A", "ann", "a"]:
            self.assertIsNot(is_thing(text), is_name(text))


def kinds_of(tuples, words, ties):
    """All kinds with just so many tuples."""
    if tuples == 0:
        return list(words)
    found = [("some", tie, inner) for tie in ties for inner in kinds_of(tuples - 1, words, ties)]
    for left in range(tuples):
        first = kinds_of(left, words, ties)
        second = kinds_of(tuples - 1 - left, words, ties)
        found.extend([("both", one, other) for one in first for other in second])
    return found


def few_kinds():
    return [kind for tuples in range(3) for kind in kinds_of(tuples, ["a", "r", "anything", "nothing"], ["r"])]


def nested(many):
    """Kinds with so many tuples: to the left, to the right, through ties, and mixed."""
    left = right = chain = mixed = "a"
    for at in range(many):
        left = ("both", left, "b")
        right = ("both", "b", right)
        chain = ("some", "r", chain)
        mixed = ("some", "r", mixed) if at % 2 else ("both", mixed, "anything")
    return [left, right, chain, mixed]


def flat(many):
    """A text of so many tuples at a depth that is small for their count."""
    kind = "a"
    waiting = [("some", "r", "a")] * many
    while len(waiting) > 1:
        waiting = [("both", one, other) for one, other in zip(waiting[::2], waiting[1::2])]
        kind = waiting[0]
    return kind


class Show(unittest.TestCase):
    def test_words(self):
        for kind in ["cat", "anything", "nothing"]:
            self.assertEqual(show_kind(kind), kind)

    def test_tuples(self):
        self.assertEqual(show_kind(("both", "dog", "small")), "(both dog small)")
        self.assertEqual(show_kind(("some", "owns", "dog")), "(some owns dog)")
        self.assertEqual(show_kind(("some", "owns", ("both", "dog", "small"))),
                         "(some owns (both dog small))")
        self.assertEqual(show_kind(("both", ("some", "r", "nothing"), ("both", "anything", "b"))),
                         "(both (some r nothing) (both anything b))")
        self.assertEqual(show_kind(("both", "a", "a")), "(both a a)")
        self.assertEqual(show_kind(("some", "dog", "dog")), "(some dog dog)")

    def test_many_tuples(self):
        left, right, chain, mixed = nested(24)
        self.assertEqual(show_kind(left), "(both " * 24 + "a" + " b)" * 24)
        self.assertEqual(show_kind(right), "(both b " * 24 + "a" + ")" * 24)
        self.assertEqual(show_kind(chain), "(some r " * 24 + "a" + ")" * 24)
        self.assertEqual(show_kind(nested(49)[2]), "(some r " * 49 + "a" + ")" * 49)

    def test_unlike_kinds_have_unlike_texts(self):
        kinds = few_kinds()
        self.assertEqual(len({show_kind(kind) for kind in kinds}), len(set(kinds)))


def is_written(text):
    """Whether a text writes a kind, found by putting one sign for ever greater parts of it."""
    if not set(text) <= set(string.ascii_lowercase + "( )") or text.count("(") > 24:
        return False

    def mark(found):
        word = found.group()
        marks = {"both": "B", "some": "S", "anything": "W", "nothing": "W"}
        return marks.get(word, "!" if word in TAKEN or len(word) > 12 else "N")

    text = re.sub("[a-z]+", mark, text)
    before = None
    while text != before:
        before = text
        text = re.sub(r"\((B [NWK]|S N) [NWK]\)", "K", text)
    return text in ("N", "W", "K")


class Read(unittest.TestCase):
    def refuse(self, text):
        with self.assertRaises(NoText, msg=repr(text)):
            read_kind(text)

    def test_plain_cases(self):
        self.assertEqual(read_kind("cat"), "cat")
        self.assertEqual(read_kind("anything"), "anything")
        self.assertEqual(read_kind("nothing"), "nothing")
        self.assertEqual(read_kind("(both dog small)"), ("both", "dog", "small"))
        self.assertEqual(read_kind("(some owns dog)"), ("some", "owns", "dog"))
        self.assertEqual(read_kind("(some owns (both dog small))"),
                         ("some", "owns", ("both", "dog", "small")))
        self.assertEqual(read_kind("(both anything (some r nothing))"),
                         ("both", "anything", ("some", "r", "nothing")))

    def test_what_is_written_is_read_to_the_same(self):
        for kind in few_kinds():
            self.assertEqual(read_kind(show_kind(kind)), kind)
        for word in TAKEN:
            kind = ("some", word + "s", ("both", word + "s", "s" + word))
            self.assertEqual(read_kind(show_kind(kind)), kind)

    def test_a_text_is_told_tuples(self):
        told = read_kind("(both a (some r b))")
        self.assertIs(type(told), tuple)
        self.assertIs(type(told[2]), tuple)

    def test_twenty_four_tuples_and_twenty_five(self):
        for many in [22, 23, 24]:
            for kind in nested(many):
                self.assertEqual(read_kind(show_kind(kind)), kind)
        for many in [25, 26, 49, 60]:
            for kind in nested(many):
                self.refuse(show_kind(kind))

    def test_many_tuples_side_by_side(self):
        kind = flat(8)
        self.assertEqual(show_kind(kind).count("("), 15)
        wide = ("both", kind, ("both", flat(4), "a"))
        self.assertEqual(show_kind(wide).count("("), 24)
        self.assertEqual(read_kind(show_kind(wide)), wide)
        wider = ("both", kind, ("both", flat(4), ("some", "r", "a")))
        self.assertEqual(show_kind(wider).count("("), 25)
        self.refuse(show_kind(wider))

    def test_no_sign_and_blanks(self):
        for text in ["", " ", "  ", "()", "( )", "(", ")"]:
            self.refuse(text)

    def test_blanks(self):
        for text in [" cat", "cat ", " (both a b)", "(both a b) ", "( both a b)", "(both a b )",
                     "(both  a b)", "(both a  b)", "(botha b)", "(both ab)", "(bothab)", "(some r  a)",
                     "(some  r a)", "(some ra)", "(somer a)", "(both(some r a) b)", "(both (some r a)b)",
                     "(some r(both a b))", "(both a b)\n", "(both\ta b)", "cat\n"]:
            self.refuse(text)

    def test_brackets(self):
        for text in ["(cat)", "(both a b", "both a b)", "both a b", "(both a b))", "((both a b)", "((both a b))",
                     "(both (a) b)", "(both a (b))", "(some (r) a)", "(some r (both a b)", "some r a",
                     "(both a b)(both a b)", "cat)", "(cat", "[both a b]"]:
            self.refuse(text)

    def test_counts_of_words(self):
        for text in ["cat dog", "(both a)", "(both)", "(both )", "(both a )", "(both a b c)", "(some r)", "(some r )",
                     "(some a b c)", "(some)", "(a b)", "(a b c)", "(both a b) c", "c (both a b)"]:
            self.refuse(text)

    def test_names_that_are_not_allowed(self):
        long = "abcdefghijklm"
        for word in [long, "Cat", "cAt", "cat2", "2", "c_t", "c-t", "Ann", "caf\u00e9", ""] + TAKEN:
            if word not in ("anything", "nothing"):
                self.refuse(word)
                self.refuse(f"(both {word} a)")
                self.refuse(f"(both a {word})")
                self.refuse(f"(some r {word})")
            self.refuse(f"(some {word} a)")
        self.assertEqual(read_kind(f"(some {long[:12]} {long[:12]})"), ("some", long[:12], long[:12]))

    def test_both_and_some_in_wrong_places(self):
        for text in ["both", "some", "(both both a)", "(both a both)", "(some some a)", "(some r some)",
                     "(some both a)", "(both some a)", "(both some r a)", "(some (both a b) c)",
                     "(some r both a b)", "(every a b)", "(no a b)", "(Both a b)", "(boths a b)", "(somes r a)",
                     "(some (some r a) b)", "(some anything a)", "(some nothing a)", "(is a b)",
                     "(a both b)", "(r some a)"]:
            self.refuse(text)

    def test_each_single_change_of_a_text(self):
        texts = ["cat", "anything", "nothing", "(both a b)", "(some r a)", "(some is a)",
                 "(both (some r nothing) anything)", "(some owns (both dog small))"]
        for text in texts:
            changed = [text[:at] + text[at + 1:] for at in range(len(text))]
            for sign in SIGNS:
                changed.extend([text[:at] + sign + text[at:] for at in range(len(text) + 1)])
                changed.extend([text[:at] + sign + text[at + 1:] for at in range(len(text))])
            for other in changed:
                self.check_by_writing(other)

    def test_all_short_rows_of_pieces(self):
        pieces = ["(", ")", " ", "both", "some", "a"]
        for many in range(7):
            for row in itertools.product(pieces, repeat=many):
                self.check_by_writing("".join(row))

    def check_by_writing(self, text):
        if is_written(text):
            self.assertEqual(show_kind(read_kind(text)), text)
        else:
            self.refuse(text)


if __name__ == "__main__":
    unittest.main()
