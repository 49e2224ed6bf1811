"""Names, and kinds as texts."""

from kinwords.errors import NoText
from kinwords.kinds import WHOLES

MOST_SIGNS = 12
MOST_TUPLES = 24

# Words that have a meaning of their own in kinds and sayings.
TAKEN = (
    "anything",
    "nothing",
    "every",
    "no",
    "is",
    "tie",
    "within",
    "then",
    "makes",
    "both",
    "some",
)


def is_small(sign):
    """Whether a sign is one of the small letters a to z."""
    # islower and its kin would take letters beyond these too.
    return "a" <= sign <= "z"


def all_small(text):
    """Whether each sign of a text is a small letter."""
    return all([is_small(sign) for sign in text])


def is_name(text):
    """Whether a text is the name of a kind or of a tie."""
    return 1 <= len(text) <= MOST_SIGNS and all_small(text) and text not in TAKEN


def is_thing(text):
    """Whether a text is the name of a thing."""
    return 1 <= len(text) <= MOST_SIGNS and "A" <= text[0] <= "Z" and all_small(text[1:])


def show_kind(kind):
    """A kind as a text."""
    if isinstance(kind, str):
        return kind
    if kind[0] == "both":
        return f"(both {show_kind(kind[1])} {show_kind(kind[2])})"
    return f"(some {kind[1]} {show_kind(kind[2])})"


def behind(text, at, sign):
    """The place behind a sign that has to stand at this place."""
    if text[at:at + 1] != sign:
        raise NoText(f"no {sign!r} at place {at}")
    return at + 1


def word_at(text, at):
    """The small letters from this place on, perhaps none, and the place behind them."""
    end = at
    while end < len(text) and is_small(text[end]):
        end += 1
    return text[at:end], end


def name_at(text, at):
    """The name that begins at this place, and the place behind it."""
    word, end = word_at(text, at)
    if not is_name(word):
        raise NoText(f"no name at place {at}")
    return word, end


def kind_word_at(text, at):
    """The kind of one word that begins at this place, and the place behind it."""
    word, end = word_at(text, at)
    if word in WHOLES:
        return word, end
    return name_at(text, at)


def kind_at(text, at):
    """The kind that begins at this place, and the place behind it."""
    if text[at:at + 1] != "(":
        return kind_word_at(text, at)
    head, end = word_at(text, at + 1)
    end = behind(text, end, " ")
    if head == "both":
        first, end = kind_at(text, end)
    elif head == "some":
        first, end = name_at(text, end)
    else:
        raise NoText(f"neither both nor some at place {at + 1}")
    second, end = kind_at(text, behind(text, end, " "))
    return (head, first, second), behind(text, end, ")")


def read_kind(text):
    """The kind that a text writes; NoText where it writes none."""
    # Each tuple has one opening bracket, so too many of these are refused
    # ahead of the reading, which then can't go deeper than a kind may.
    if text.count("(") > MOST_TUPLES:
        raise NoText("more tuples than a kind may have")
    kind, end = kind_at(text, 0)
    if end != len(text):
        raise NoText(f"something behind the kind at place {end}")
    return kind
