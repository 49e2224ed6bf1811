"""The rules by which a step comes from earlier ones, and whether steps keep to them."""

from kinwords.kinds import named
from kinwords.words import is_thing

# How many earlier steps each rule takes.
FROMS = {
    "self": 0,
    "all": 0,
    "thing": 0,
    "tied": 0,
    "every": 1,
    "first": 1,
    "second": 1,
    "some": 1,
    "within": 1,
    "no": 2,
    "both": 2,
    "tie": 2,
    "none": 2,
    "makes": 2,
}

# These rules go by a saying, whose form bears the rule's name; the others by none.
BY_SAYING = ("thing", "tied", "every", "within", "no", "makes")


def is_of_form(fact, form):
    """Whether a fact tells something to be a both, or a some."""
    return fact[0] == "is" and not isinstance(fact[2], str) and fact[2][0] == form


# Each of these defs tells the fact that its rule makes of earlier facts and
# a saying of the rule's form, or None where they do not fit together.


def made_thing(told, saying):
    """What a thing is by a saying."""
    return ("is", saying[1], saying[2])


def made_tied(told, saying):
    """What a thing has by a saying."""
    return ("has", saying[1], saying[2], saying[3])


def made_every(told, saying):
    """x is C, by every C is D: x is D."""
    x = told[0][1]
    if told[0] != ("is", x, saying[1]):
        return None
    return ("is", x, saying[2])


def made_first(told, saying):
    """x is both C and D: x is C."""
    if not is_of_form(told[0], "both"):
        return None
    return ("is", told[0][1], told[0][2][1])


def made_second(told, saying):
    """x is both C and D: x is D."""
    if not is_of_form(told[0], "both"):
        return None
    return ("is", told[0][1], told[0][2][2])


def made_some(told, saying):
    """x is some r C: x has r C."""
    if not is_of_form(told[0], "some"):
        return None
    return ("has", told[0][1], told[0][2][1], told[0][2][2])


def made_within(told, saying):
    """x has r y, by r within s: x has s y."""
    fact = told[0]
    if fact[0] != "has" or fact[2] != saying[1]:
        return None
    return ("has", fact[1], saying[2], fact[3])


def made_no(told, saying):
    """x is C, x is D, by no C is D: x is nothing."""
    x = told[0][1]
    if told != [("is", x, saying[1]), ("is", x, saying[2])]:
        return None
    return ("is", x, "nothing")


def made_both(told, saying):
    """x is C, x is D: x is both C and D."""
    one, other = told
    if one[0] != "is" or other[0] != "is" or one[1] != other[1]:
        return None
    return ("is", one[1], ("both", one[2], other[2]))


def made_tie(told, saying):
    """x has r y, y is C: x is some r C."""
    one, other = told
    if one[0] != "has" or other[0] != "is" or one[3] != other[1]:
        return None
    return ("is", one[1], ("some", one[2], other[2]))


def made_none(told, saying):
    """x has r y, y is nothing: x is nothing."""
    one, other = told
    if one[0] != "has" or other != ("is", one[3], "nothing"):
        return None
    return ("is", one[1], "nothing")


def made_makes(told, saying):
    """x has r y, y has s z, by r then s makes t: x has t z."""
    one, other = told
    if one[0] != "has" or other[0] != "has" or one[3] != other[1]:
        return None
    if one[2] != saying[1] or other[2] != saying[2]:
        return None
    return ("has", one[1], saying[3], other[3])


MAKERS = {
    "thing": made_thing,
    "tied": made_tied,
    "every": made_every,
    "first": made_first,
    "second": made_second,
    "some": made_some,
    "within": made_within,
    "no": made_no,
    "both": made_both,
    "tie": made_tie,
    "none": made_none,
    "makes": made_makes,
}


def stands_for_thing(x):
    """Whether a stand-in is the name of a thing, and no kind."""
    return isinstance(x, str) and is_thing(x)


def is_self(fact):
    """Whether a fact tells a kind to be itself."""
    x = fact[1]
    return fact == ("is", x, x) and not stands_for_thing(x)


def is_all(fact, things):
    """Whether a fact tells a kind, or one of these things, to be anything."""
    x = fact[1]
    return fact == ("is", x, "anything") and (not stands_for_thing(x) or x in things)


def things_named(pairs):
    """The things that sayings at hand name, as the keys of a dict."""
    return {thing: True for number, saying in pairs for thing in named(saying)[2]}


def is_whole(value):
    """Whether a value is a whole number; Python takes True and False for some, too."""
    return isinstance(value, int) and not isinstance(value, bool)


def are_earlier(froms, at):
    """Whether each of these numbers names a step ahead of a place."""
    return all([is_whole(origin) and 0 <= origin < at for origin in froms])


def fits_number(rule, number, sayings):
    """Whether a step by this rule may bear this number."""
    if rule not in BY_SAYING:
        return number is None
    return is_whole(number) and number in sayings and sayings[number][0] == rule


def is_right(steps, at, sayings, things):
    """Whether a step is right by sayings, given by their numbers, that name these things."""
    fact, rule, froms, number = steps[at]
    if rule not in FROMS or len(froms) != FROMS[rule] or not are_earlier(froms, at):
        return False
    if not fits_number(rule, number, sayings):
        return False
    if rule == "self":
        return is_self(fact)
    if rule == "all":
        return is_all(fact, things)
    maker = MAKERS[rule]
    told = [steps[origin][0] for origin in froms]
    return fact == maker(told, sayings.get(number))


def right(steps, at, pairs):
    """Whether the step at a place of a list is what its rule gives from earlier steps."""
    return is_right(steps, at, dict(pairs), things_named(pairs))


def stands(steps, pairs):
    """Whether each step of a list is right."""
    sayings = dict(pairs)
    things = things_named(pairs)
    return all([is_right(steps, at, sayings, things) for at in range(len(steps))])
