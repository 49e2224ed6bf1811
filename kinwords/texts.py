"""Sayings as texts."""

from kinwords.errors import NoText
from kinwords.words import is_name, is_thing, read_kind, show_kind


def show(saying):
    """A saying as a text."""
    form = saying[0]
    if form in ("every", "no"):
        return f"{form} {show_kind(saying[1])} is {show_kind(saying[2])}"
    if form == "thing":
        return f"{saying[1]} is {show_kind(saying[2])}"
    if form == "tied":
        return f"{saying[1]} {saying[2]} {saying[3]}"
    if form == "within":
        return f"tie {saying[1]} within {saying[2]}"
    return f"tie {saying[1]} then {saying[2]} makes {saying[3]}"


def read_tie(word):
    """The tie that a word names."""
    if not is_name(word):
        raise NoText(f"{word!r} is no tie's name")
    return word


def read_of_kinds(form, rest):
    """The saying of two kinds, of which this is written behind its first word."""
    # No kind has the word "is" in it, so the first one parts the two; where
    # there is none, the second kind has no sign and is refused for that.
    first, link, second = rest.partition(" is ")
    return (form, read_kind(first), read_kind(second))


def read_of_thing(thing, rest):
    """The saying of a thing, of which this is written behind its name."""
    if rest.startswith("is "):
        return ("thing", thing, read_kind(rest[3:]))
    words = rest.split(" ")
    if len(words) != 2 or not is_thing(words[1]):
        raise NoText(f"neither a kind nor a tied thing behind {thing}")
    return ("tied", thing, read_tie(words[0]), words[1])


def read_of_ties(rest):
    """The saying of ties, of which this is written behind its first word."""
    words = rest.split(" ")
    if len(words) == 3 and words[1] == "within":
        form = "within"
    elif len(words) == 5 and words[1] == "then" and words[3] == "makes":
        form = "makes"
    else:
        raise NoText("neither two nor three ties behind tie")
    return tuple([form] + [read_tie(word) for word in words[::2]])


def read(text):
    """The saying that a text writes; NoText where it writes none."""
    head, blank, rest = text.partition(" ")
    if head in ("every", "no"):
        return read_of_kinds(head, rest)
    if head == "tie":
        return read_of_ties(rest)
    if is_thing(head):
        return read_of_thing(head, rest)
    raise NoText(f"no saying begins with {head!r}")
