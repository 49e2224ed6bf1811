"""The paper of a fact: the steps that are needed for it, and no others."""

from kinwords.errors import NoFact


def place_of(steps, fact):
    """The place of the first step that tells a fact; NoFact where none does."""
    for at, step in enumerate(steps):
        if step[0] == fact:
            return at
    raise NoFact(fact)


def needed_for(steps, at):
    """The places of the steps that the step at a place hangs on, itself with them, rising."""
    needed = {at: True}
    waiting = [at]
    while waiting:
        place = waiting.pop()
        for origin in steps[place][2]:
            if origin not in needed:
                needed[origin] = True
                waiting.append(origin)
    return sorted(needed)


def paper(steps, fact):
    """The steps of a list that are needed for a fact, their froms told by the new places."""
    needed = needed_for(steps, place_of(steps, fact))
    new_place = {old: new for new, old in enumerate(needed)}
    told = []
    for old in needed:
        fact_here, rule, froms, number = steps[old]
        told.append((fact_here, rule, [new_place[origin] for origin in froms], number))
    return told
