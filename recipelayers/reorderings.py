"""Orders of the steps of the last stage, and steps that are not needed there."""

from itertools import permutations

from recipelayers.alike import compare
from recipelayers.errors import TooMany

MOST_ORDERED = 5


def ordered(recipe, order):
    """The Recipe with the steps of its last stage in an order, a list of their indexes."""
    name = recipe.last()
    steps = recipe.steps(name)
    return recipe.with_steps(name, [steps[at] for at in order])


def orders(recipe, *, limit=2000):
    """All orders, ascending, whose Recipe is alike to this one."""
    many = last_many(recipe)
    if many > MOST_ORDERED:
        raise TooMany(MOST_ORDERED)
    return [list(order) for order in permutations(range(many)) if apart(recipe, order, limit=limit) is None]


def apart(recipe, order, *, limit=2000):
    """None if the Recipe in an order is alike, or the tuple (inputs, arguments, path) that parts both."""
    told = compare(recipe, ordered(recipe, order), limit=limit)
    return None if told[0] == "alike" else told[1:]


def idle(recipe, *, limit=2000):
    """The indexes, ascending, of the steps of the last stage without which, one by one, the Recipe is alike."""
    indexes = range(last_many(recipe))
    # An order that leaves an index out takes its step out.
    return [at for at in indexes if apart(recipe, [k for k in indexes if k != at], limit=limit) is None]


def last_many(recipe):
    """The number of the steps of the last stage."""
    return len(recipe.steps(recipe.last()))
