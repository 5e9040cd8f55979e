"""Deeds: what changes the steps of the last stage of a recipe."""

from recipelayers.errors import NoStep, TooMany
from recipelayers.kinds import is_integer, is_tagged
from recipelayers.recipes import MOST_STEPS
from recipelayers.steps import is_step


def is_deed(thing):
    """Whether thing is a deed."""
    if is_tagged(thing, "lose", 2):
        return is_number(thing[1])
    if is_tagged(thing, "put", 3) or is_tagged(thing, "change", 3):
        return is_number(thing[1]) and is_step(thing[2])
    return False


def done(recipe, deed):
    """The tuple (recipe, step) of the Recipe with a deed and the step that this takes out, or None."""
    name = recipe.last()
    steps = recipe.steps(name)
    kind, at = deed[0], deed[1]
    if at > len(steps) or (at == len(steps) and kind != "put"):
        raise NoStep(at)
    if kind == "put" and len(steps) >= MOST_STEPS:
        raise TooMany(MOST_STEPS)
    put = [] if kind == "lose" else [deed[2]]
    taken = [] if kind == "put" else [steps[at]]
    changed = recipe.with_steps(name, steps[:at] + put + steps[at + len(taken):])
    return (changed, taken[0] if len(taken) > 0 else None)


def common_deeds(one, other):
    """With how many deeds two lists of deeds both begin."""
    many = 0
    while many < min(len(one), len(other)) and one[many] == other[many]:
        many = many + 1
    return many


def is_number(thing):
    """Whether thing is an integer that is not negative."""
    return is_integer(thing) and thing >= 0
