"""The small world of a standstill: its places are stand-ins."""

from kinwords.kinds import WHOLES
from kinwords.rules import stands_for_thing
from kinwords.words import show_kind


def ties_told(steps):
    """The facts of ties as triples (x, tie, y), each once, the stand-ins by their writing."""
    # Stand-ins may lie deeper than a key of a dict may; their writings are keys.
    told = {}
    for step in steps:
        if step[0][0] == "has":
            told[(show_kind(step[0][1]), step[0][2], show_kind(step[0][3]))] = True
    return list(told)


def kinds_told(steps):
    """The facts of names of kinds as pairs (x, name), each once, the stand-ins by their writing."""
    told = {}
    for step in steps:
        if step[0][0] == "is" and isinstance(step[0][2], str) and step[0][2] not in WHOLES:
            told[(show_kind(step[0][1]), step[0][2])] = True
    return list(told)


def things_told(steps):
    """The things that the facts of steps speak of, each once."""
    told = {}
    for step in steps:
        fact = step[0]
        about = [fact[1]] if fact[0] == "is" else [fact[1], fact[3]]
        for x in about:
            if stands_for_thing(x):
                told[x] = True
    return list(told)


def reached(first, triples):
    """These stand-ins and whom they have, step by step, as a dict that numbers them."""
    onward = {}
    for x, tie, y in triples:
        onward.setdefault(x, []).append(y)
    numbers = {}
    waiting = list(first)
    while waiting:
        x = waiting.pop()
        if x not in numbers:
            numbers[x] = len(numbers)
            waiting.extend(onward.get(x, []))
    return numbers


def small_world(steps, starts):
    """The world whose places are the things of steps, the starts, and whom they have."""
    triples = ties_told(steps)
    things = things_told(steps)
    place = reached(things + [show_kind(kind) for kind in starts], triples)
    kinds = {}
    for x, name in kinds_told(steps):
        if x in place:
            kinds.setdefault(name, []).append(place[x])
    ties = {}
    for x, tie, y in triples:
        if x in place:
            ties.setdefault(tie, []).append((place[x], place[y]))
    rising = {name: sorted(kinds[name]) for name in kinds}
    return (len(place), rising, ties, {thing: place[thing] for thing in things})
