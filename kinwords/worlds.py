"""Worlds: the members of kinds in them, and the sayings that they keep."""


def tie_pairs(world, tie):
    """The pairs of a tie; a tie that the world does not tell has none."""
    return world[2].get(tie, [])


def members(world, kind):
    """The places in a world that are members of a kind, rising."""
    if kind == "anything":
        return list(range(world[0]))
    if kind == "nothing":
        return []
    if isinstance(kind, str):
        return list(world[1].get(kind, []))
    if kind[0] == "both":
        return sorted(set(members(world, kind[1])) & set(members(world, kind[2])))
    reached = set(members(world, kind[2]))
    return sorted({start for start, end in tie_pairs(world, kind[1]) if end in reached})


def keeps_every(world, saying):
    """Whether each member of the first kind is one of the second."""
    return len(set(members(world, saying[1])) - set(members(world, saying[2]))) == 0


def keeps_no(world, saying):
    """Whether no place is a member of both kinds."""
    return len(set(members(world, saying[1])) & set(members(world, saying[2]))) == 0


def keeps_thing(world, saying):
    """Whether the thing has a place, and it is a member of the kind."""
    things = world[3]
    return saying[1] in things and things[saying[1]] in members(world, saying[2])


def keeps_tied(world, saying):
    """Whether both things have places, and these are a pair of the tie."""
    things = world[3]
    if saying[1] not in things or saying[3] not in things:
        return False
    return (things[saying[1]], things[saying[3]]) in tie_pairs(world, saying[2])


def keeps_within(world, saying):
    """Whether each pair of the first tie is one of the second."""
    return len(set(tie_pairs(world, saying[1])) - set(tie_pairs(world, saying[2]))) == 0


def ends_by_start(pairs):
    """For each place that begins a pair, the list of the places that end it."""
    ends = {}
    for start, end in pairs:
        ends.setdefault(start, []).append(end)
    return ends


def keeps_makes(world, saying):
    """Whether the first two ties, one behind the other, lie in the third."""
    # Without this table a world of many pairs would be walked pair by pair for each pair.
    onward = ends_by_start(tie_pairs(world, saying[2]))
    made = set(tie_pairs(world, saying[3]))
    for start, middle in tie_pairs(world, saying[1]):
        for end in onward.get(middle, []):
            if (start, end) not in made:
                return False
    return True


KEEPERS = {
    "every": keeps_every,
    "no": keeps_no,
    "thing": keeps_thing,
    "tied": keeps_tied,
    "within": keeps_within,
    "makes": keeps_makes,
}


def keeps(world, saying):
    """Whether a world keeps a saying."""
    keeper = KEEPERS[saying[0]]
    return keeper(world, saying)


def broken(world, sayings):
    """The places in a list of sayings of those that a world does not keep."""
    return [at for at, saying in enumerate(sayings) if not keeps(world, saying)]
