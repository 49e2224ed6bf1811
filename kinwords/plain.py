"""The plain form of kinds and sayings: one form for all that differ in order, nesting and doubling alone."""

from kinwords.kinds import FORMS
from kinwords.words import show_kind


def bits(kind):
    """The bits of a kind, from left to right, perhaps some of them twice."""
    if kind == "anything":
        return []
    if isinstance(kind, str):
        return [kind]
    if kind[0] == "both":
        return bits(kind[1]) + bits(kind[2])
    inner = plain(kind[2])
    if inner == "nothing":
        return ["nothing"]
    return [("some", kind[1], inner)]


def plain(kind):
    """The plain form of a kind."""
    # Unlike kinds have unlike writings, and bits may lie deeper than a key may.
    by_text = {show_kind(bit): bit for bit in bits(kind)}
    if "nothing" in by_text:
        return "nothing"
    if not by_text:
        return "anything"
    ordered = [by_text[text] for text in sorted(by_text)]
    whole = ordered.pop()
    while ordered:
        whole = ("both", ordered.pop(), whole)
    return whole


def plain_saying(saying):
    """A saying with the plain forms of its kinds in the place of these."""
    parts = [saying[0]]
    for sort, part in zip(FORMS[saying[0]], saying[1:]):
        parts.append(plain(part) if sort == "kind" else part)
    return tuple(parts)
