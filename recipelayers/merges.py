"""Recipes that continue one recipe, merged into one."""

from recipelayers.alike import compare
from recipelayers.errors import TooMany, Unlike
from recipelayers.recipes import MOST_STEPS


def merged(base, one, other, *, limit=2000):
    """("merged", recipe) with the further steps of two Recipes if their order means nothing, or what parts both."""
    if not continues(one, base) or not continues(other, base):
        raise Unlike()
    name = base.last()
    steps = base.steps(name)
    first = one.steps(name)[len(steps):]
    second = other.steps(name)[len(steps):]
    if len(steps + first + second) > MOST_STEPS:
        raise TooMany(MOST_STEPS)
    whole = base.with_steps(name, steps + first + second)
    told = compare(whole, base.with_steps(name, steps + second + first), limit=limit)
    return ("merged", whole) if told[0] == "alike" else told


def continues(recipe, base):
    """Whether a Recipe has the stages of base, the last one perhaps with further steps."""
    stages, known = recipe.stages(), base.stages()
    name, start, steps = stages[-1]
    return [*stages[:-1], (name, start, steps[:len(known[-1][2])])] == known
