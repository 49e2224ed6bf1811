"""A clerk that is told rows of text and answers each by a text."""

from kinwords.desk import Desk
from kinwords.errors import NoRow
from kinwords.texts import read, show

FIGURES = "0123456789"
MOST_FIGURES = 9


def is_number(word):
    """Whether a word writes a whole number as rows have it."""
    # isdigit would take figures beyond these too.
    if not 1 <= len(word) <= MOST_FIGURES or not all([sign in FIGURES for sign in word]):
        return False
    return word == "0" or word[0] != "0"


def show_pairs(pairs):
    """Pairs of the table, each as a word."""
    return [f"{x}>{kind}" for x, kind in pairs]


def show_words(words):
    """Words with a blank between, or none."""
    return " ".join(words) if words else "none"


def show_lists(told):
    """Least sets or cuts, and more where these are not all."""
    lists, are_all = told
    words = ["(" + " ".join([str(number) for number in numbers]) + ")" for numbers in lists]
    return show_words(words if are_all else words + ["more"])


# Each of these defs answers one form of row: by a desk, and what is read behind the first word.


def say_put(desk, saying):
    """The number, and what came."""
    number, came = desk.put(saying)
    return show_words([str(number)] + show_pairs(came))


def say_ask(desk, saying):
    """Whether a question follows."""
    return "yes" if desk.ask(saying)[0] == "follows" else "no"


def say_steps(desk, saying):
    """How many steps lead to a question's goal."""
    told = desk.ask(saying)
    return str(len(told[1])) if told[0] == "follows" else "no"


def say_least(desk, most, saying):
    """The least sets."""
    return show_lists(desk.least(saying, most))


def say_cuts(desk, most, saying):
    """The cuts."""
    return show_lists(desk.cuts(saying, most))


def say_table(desk):
    """The pairs of the table."""
    return show_words(show_pairs(desk.table()))


def say_said(desk):
    """The sayings by their numbers."""
    rows = [f"{number}: {show(saying)}" for number, saying in desk.said()]
    return "; ".join(rows) if rows else "none"


OF_NOTHING = {"table": say_table, "said": say_said}
OF_SAYING = {"put": say_put, "ask": say_ask, "steps": say_steps}
OF_MOST = {"least": say_least, "cuts": say_cuts}


class Clerk:
    """Has a desk of its own."""

    def __init__(self):
        self.desk = Desk()

    def say(self, row):
        """The answer to a row; NoRow, then NoText, then what the desk refuses."""
        word, blank, rest = row.partition(" ")
        if word in OF_NOTHING and not blank:
            telling = OF_NOTHING[word]
            return telling(self.desk)
        if word == "take" and is_number(rest):
            return show_words(show_pairs(self.desk.take(int(rest))))
        if word in OF_SAYING and blank:
            deed = OF_SAYING[word]
            return deed(self.desk, read(rest))
        if word in OF_MOST:
            most, second_blank, text = rest.partition(" ")
            if is_number(most) and second_blank:
                choosing = OF_MOST[word]
                return choosing(self.desk, int(most), read(text))
        raise NoRow(f"no row has the form of {row!r}")
