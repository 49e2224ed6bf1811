"""Kinds and sayings as tuples: what stands within them."""

# These two stand where a name of a kind may stand, but name nothing.
WHOLES = ("anything", "nothing")

# What stands in a saying behind its first word, from left to right.
FORMS = {
    "every": ("kind", "kind"),
    "no": ("kind", "kind"),
    "thing": ("thing", "kind"),
    "tied": ("thing", "tie", "thing"),
    "within": ("tie", "tie"),
    "makes": ("tie", "tie", "tie"),
}


def inner_kinds(kind):
    """The kinds that stand straight in a kind, from left to right."""
    if isinstance(kind, str):
        return []
    if kind[0] == "both":
        return [kind[1], kind[2]]
    return [kind[2]]


def depth(kind):
    """How deep the tuples of a kind stand within one another."""
    inner = inner_kinds(kind)
    if not inner:
        return 0
    return 1 + max([depth(part) for part in inner])


def within(kind):
    """All kinds that stand within a kind, itself with them, each once."""
    # Kinds may lie deeper than a key of a dict may, so a list keeps them.
    found = []
    waiting = [kind]
    while waiting:
        part = waiting.pop()
        if part not in found:
            found.append(part)
            waiting.extend(inner_kinds(part))
    return found


def note_names(kind, kinds, ties):
    """Put the names in a kind into two dicts, whose keys keep their order."""
    if isinstance(kind, str):
        if kind not in WHOLES:
            kinds[kind] = True
        return
    if kind[0] == "some":
        ties[kind[1]] = True
    for part in inner_kinds(kind):
        note_names(part, kinds, ties)


def named(saying):
    """The names in a saying as three lists: kinds, ties, things."""
    kinds = {}
    ties = {}
    things = {}
    for sort, part in zip(FORMS[saying[0]], saying[1:]):
        if sort == "kind":
            note_names(part, kinds, ties)
        elif sort == "tie":
            ties[part] = True
        else:
            things[part] = True
    return (list(kinds), list(ties), list(things))
