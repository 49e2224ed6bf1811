"""Second, slow and plain ways for what the program does, and drawn sayings to try both by."""

KINDS = ["a", "b", "c", "anything", "nothing", ("both", "a", "b"), ("both", "b", "a"), ("some", "r", "a"),
         ("some", "s", "b"), ("some", "r", "anything"), ("some", "r", ("both", "b", "c")),
         ("both", "c", ("some", "s", "a"))]
TIES = ["r", "s", "a"]
THINGS = ["Ann", "Bob"]


def is_thing_name(x):
    return isinstance(x, str) and x[0].isupper()


def parts_of(kind):
    """All kinds within a kind, itself with them."""
    if isinstance(kind, str):
        return {kind}
    inner = kind[1:] if kind[0] == "both" else kind[2:]
    return {kind}.union(*[parts_of(part) for part in inner])


def kinds_in(saying):
    return {"every": saying[1:], "no": saying[1:], "thing": saying[2:]}.get(saying[0], ())


def things_in(saying):
    return {"thing": saying[1:2], "tied": saying[1:4:2]}.get(saying[0], ())


def known_kinds(pairs, further):
    known = set()
    for number, saying in pairs:
        for kind in kinds_in(saying):
            known |= parts_of(kind)
    for kind in further:
        known |= parts_of(kind)
    return known


def from_nothing(saying):
    if saying[0] == "thing":
        return {("is", saying[1], saying[2])}
    if saying[0] == "tied":
        return {("has", saying[1], saying[2], saying[3])}
    return set()


def from_one(fact, sayings):
    new = set()
    x = fact[1]
    if fact[0] == "is":
        kind = fact[2]
        new |= {("is", x, saying[2]) for saying in sayings if saying[0] == "every" and saying[1] == kind}
        if kind[0] == "both" and not isinstance(kind, str):
            new |= {("is", x, kind[1]), ("is", x, kind[2])}
        if kind[0] == "some" and not isinstance(kind, str):
            new.add(("has", x, kind[1], kind[2]))
    else:
        new |= {("has", x, saying[2], fact[3]) for saying in sayings
                if saying[0] == "within" and saying[1] == fact[2]}
    return new


def from_two(one, other, sayings, known):
    """What comes of two facts, or of one taken twice, in this order."""
    new = set()
    if one[0] == other[0] == "is" and one[1] == other[1]:
        if ("no", one[2], other[2]) in sayings:
            new.add(("is", one[1], "nothing"))
        if ("both", one[2], other[2]) in known:
            new.add(("is", one[1], ("both", one[2], other[2])))
    if one[0] == "has" and one[3] == other[1]:
        if other[0] == "is":
            if ("some", one[2], other[2]) in known:
                new.add(("is", one[1], ("some", one[2], other[2])))
            if other[2] == "nothing":
                new.add(("is", one[1], "nothing"))
        else:
            new |= {("has", one[1], saying[3], other[3]) for saying in sayings
                    if saying[0] == "makes" and saying[1:3] == (one[2], other[2])}
    return new


def all_facts(pairs, starts, further, handed=()):
    """The facts of a standstill, and its stand-ins: all rules on all pairs of facts, over and over."""
    sayings = {saying for number, saying in pairs}
    known = known_kinds(pairs, further)
    facts = set(handed)
    stand_ins = set(starts) | {thing for saying in sayings for thing in things_in(saying)}
    stand_ins |= {fact[1] for fact in handed}
    while True:
        stand_ins |= {fact[3] for fact in facts if fact[0] == "has"}
        new = {("is", x, "anything") for x in stand_ins}
        new |= {("is", x, x) for x in stand_ins if not is_thing_name(x)}
        for saying in sayings:
            new |= from_nothing(saying)
        by_start = {}
        for fact in facts:
            by_start.setdefault(fact[1], []).append(fact)
        for one in facts:
            new |= from_one(one, sayings)
            about = one[1] if one[0] == "is" else one[3]
            for other in by_start.get(about, []):
                new |= from_two(one, other, sayings, known)
        if new <= facts:
            return facts, stand_ins
        facts |= new


def drawn_saying(source, kinds=None, ties=None, things=None):
    kinds, ties, things = kinds or KINDS, ties or TIES, things or THINGS
    form = source.choice(["every", "every", "every", "no", "thing", "thing", "tied", "tied", "within", "makes", "makes"])
    if form in ("every", "no"):
        return (form, source.choice(kinds), source.choice(kinds))
    if form == "thing":
        return (form, source.choice(things), source.choice(kinds))
    if form == "tied":
        return (form, source.choice(things), source.choice(ties), source.choice(things))
    return (form,) + tuple(source.choice(ties) for at in range(2 if form == "within" else 3))


def drawn_pairs(source, most, **choices):
    """Some sayings at hand; their numbers have gaps."""
    numbers = sorted(source.sample(range(1, 3 * most + 2), source.randrange(most + 1)))
    return [(number, drawn_saying(source, **choices)) for number in numbers]


def drawn_kinds(source, most):
    return [source.choice(KINDS) for at in range(source.randrange(most + 1))]


def numbered(*sayings):
    """Sayings at hand, with numbers that are not one behind the other."""
    return [(3 * at + 2, saying) for at, saying in enumerate(sayings)]


def facts_of(steps):
    return [step[0] for step in steps]


def is_right_besides(steps, at):
    """Whether a step is right by one of the two rules that only answers have."""
    fact, rule, froms, number = steps[at]
    if rule not in ("void", "clash") or number is not None or len(froms) != 1 or not 0 <= froms[0] < at:
        return False
    origin = steps[froms[0]][0]
    if origin[0] != "is" or origin[2] != "nothing":
        return False
    return fact[1] == origin[1] if rule == "void" else is_thing_name(origin[1])


def all_choices(pairs):
    """All lists of pairs that have some of these, in their order."""
    whole = [[]]
    for pair in pairs:
        whole += [choice + [pair] for choice in whole]
    return whole


def plain_order(lists):
    return sorted(lists, key=lambda numbers: (len(numbers), numbers))


def slow_least(pairs, lets_follow):
    """All least sets: those choices that let follow, and none that is a part of them does."""
    enough = [[number for number, saying in choice] for choice in all_choices(pairs) if lets_follow(choice)]
    return plain_order([one for one in enough if not any(set(other) < set(one) for other in enough)])


def slow_cuts(pairs, lets_follow):
    """All cuts: those choices without which the others do not let follow, and none that is a part of them is one."""
    cut = []
    for choice in all_choices(pairs):
        if not lets_follow([pair for pair in pairs if pair not in choice]):
            cut.append([number for number, saying in choice])
    return plain_order([one for one in cut if not any(set(other) < set(one) for other in cut)])


def drawn_question(source, kinds=None, ties=None, things=None):
    while True:
        question = drawn_saying(source, kinds, ties, things)
        if question[0] not in ("within", "makes"):
            return question
