"""The errors of the package. Each keeps the very objects that it was made from."""


class LayerError(ValueError):
    """What all errors of the package have in common."""


class Wrong(LayerError):
    """The argument at a place is not as described."""

    def __init__(self, place):
        self.place = place


class NoFolder(LayerError):
    """A path has no folder above it where it needs one."""

    def __init__(self, path):
        self.path = path


class NoLayer(LayerError):
    """A number does not tell layers of a stack."""

    def __init__(self, at):
        self.at = at


class NoQuotient(LayerError):
    """No layer makes the whole of the lower one."""


class NoStage(LayerError):
    """A name is not that of a stage that may be told here."""

    def __init__(self, name):
        self.name = name


class NoStep(LayerError):
    """A number is not the index of a step."""

    def __init__(self, at):
        self.at = at


class TooMany(LayerError):
    """There would be more than a limit allows."""

    def __init__(self, limit):
        self.limit = limit


class Unlike(LayerError):
    """Two things do not have in common what they need to."""


class NoDeed(LayerError):
    """A value is not a deed."""


class Nothing(LayerError):
    """There is nothing to undo or to do again."""


class Stopped(LayerError):
    """One of several deeds could not be done."""

    def __init__(self, at):
        self.at = at


class NoText(LayerError):
    """A value is not the text of such a thing."""
