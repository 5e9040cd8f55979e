"""The least layers between two trees."""

from recipelayers.changes import Change
from recipelayers.kinds import is_plain
from recipelayers.layers import Layer


def layer(lower, upper):
    """A Layer of least weight that makes the Tree upper of the Tree lower."""
    return Layer(Change(lower, upper).entries_beneath(()))


def weight(lower, upper):
    """The weight of such a Layer."""
    return Change(lower, upper).least_beneath(())


def table(lower, upper):
    """The tuples (path, take, put) of all paths of two Trees, in ascending order."""
    return Change(lower, upper).numbers()


def is_table(lower, upper, thing):
    """Whether thing, any value, is the list that table returns."""
    return is_plain(thing, table(lower, upper))
