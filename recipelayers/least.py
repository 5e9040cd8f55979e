"""The least layers between two trees."""

from recipelayers.changes import Change
from recipelayers.kinds import is_integer, is_path
from recipelayers.layers import Layer


def layer(lower, upper):
    """A Layer of least weight that makes the Tree upper of the Tree lower."""
    return Layer(Change(lower, upper).entries_beneath(()))


def weight(lower, upper):
    """The weight of such a Layer."""
    return Change(lower, upper).least_beneath(())


def table(lower, upper):
    """The tuples (path, take, put) of all paths of two Trees, in ascending order."""
    return Change(lower, upper).numbers()


def is_table(lower, upper, thing):
    """Whether thing, any value, is the list that table returns."""
    # The kinds are asked first, as True == 1, and as any value may have an == of its own.
    if not isinstance(thing, list) or not all([is_numbered(row) for row in thing]):
        return False
    return thing == table(lower, upper)


def is_numbered(thing):
    """Whether thing is a tuple of a path and two numbers or None."""
    if not isinstance(thing, tuple) or len(thing) != 3 or not is_path(thing[0]):
        return False
    return all([number is None or is_integer(number) for number in thing[1:]])
