"""Layers that, laid on a lower one, make a whole."""

from recipelayers.errors import NoQuotient
from recipelayers.layers import Layer
from recipelayers.quotients import Quotient


def may_divide(lower, whole):
    """Whether a Layer laid on the Layer lower makes the Layer whole."""
    # If one does, the whole itself does: what is laid over twice is made by the last time alone.
    return (lower | whole) == whole


def behind(lower, whole):
    """A Layer of least weight that, laid on the Layer lower, makes the Layer whole."""
    quotient = Quotient(lower, whole)
    if not quotient.exists():
        raise NoQuotient()
    return Layer(quotient.entries_beneath(()))
