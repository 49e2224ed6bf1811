"""Whether a question follows from sayings at hand: the steps that lead to it, or a world that does not keep it."""

from kinwords.errors import NoQuestion
from kinwords.papers import paper
from kinwords.rules import stands_for_thing
from kinwords.small import small_world
from kinwords.stills import still


def goal(question):
    """The fact that a question asks for; NoQuestion for a saying of ties."""
    form = question[0]
    if form in ("every", "thing"):
        return ("is", question[1], question[2])
    if form == "no":
        return ("is", ("both", question[1], question[2]), "nothing")
    if form == "tied":
        return ("has", question[1], question[2], question[3])
    raise NoQuestion(f"a saying of the form {form} can't be asked")


def starts_for(aim):
    """The kinds that a standstill has to start with so that it tells of a goal."""
    # A thing stands in by the sayings that name it, and by these alone.
    return [] if stands_for_thing(aim[1]) else [aim[1]]


def standstill_for(pairs, aim):
    """A standstill that tells a goal where the rules lead to it."""
    return still(pairs, starts_for(aim), [aim[2]] if aim[0] == "is" else [])


def ground_for(facts, aim):
    """A fact among these that leads to a goal, and the rule by which it does, or None where there is none.

    Where the goal itself is among them, the rule is None.
    """
    if aim in facts:
        return (aim, None)
    if ("is", aim[1], "nothing") in facts:
        return (("is", aim[1], "nothing"), "void")
    for fact in facts:
        if fact[0] == "is" and fact[2] == "nothing" and stands_for_thing(fact[1]):
            return (fact, "clash")
    return None


def follows(pairs, question):
    """Whether a question is kept in every world that keeps all sayings at hand."""
    aim = goal(question)
    facts = [step[0] for step in standstill_for(pairs, aim)]
    return ground_for(facts, aim) is not None


def answer(pairs, question):
    """The steps that lead to a question's goal, or a world that keeps all sayings at hand and not the question."""
    aim = goal(question)
    steps = standstill_for(pairs, aim)
    ground = ground_for([step[0] for step in steps], aim)
    if ground is None:
        return ("fails", small_world(steps, starts_for(aim)))
    fact, rule = ground
    told = paper(steps, fact)
    if rule is not None:
        told.append((aim, rule, [len(told) - 1], None))
    return ("follows", told)
