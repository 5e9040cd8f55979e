"""Layers: what makes one tree of another."""

from recipelayers.errors import NoFolder, Wrong
from recipelayers.kinds import is_entry, is_folder
from recipelayers.paths import are_rows, either, in_order, lies_beneath
from recipelayers.words import entry_of, weight_of, word_of, word_over


class Layer:
    """What is said of each path, told by entries at finitely many of them."""

    def __init__(self, rows=()):
        if not are_entry_rows(rows):
            raise Wrong(0)
        entries = in_order(rows)
        path = misplaced(entries)
        if path is not None:
            raise NoFolder(path)
        self._entries = as_written(entries)

    def __eq__(self, other):
        return isinstance(other, Layer) and self._entries == other._entries

    def __len__(self):
        return len(self._entries)

    def __repr__(self):
        return f"Layer({self.rows()!r})"

    def __contains__(self, path):
        return path in self._entries

    def __or__(self, other):
        """The Layer that makes what this one and then the other one make."""
        entries = []
        for path in either(list(self._entries), list(other._entries)):
            entry = entry_together(self, other, path)
            if entry is not None:
                entries.append((path, entry))
        return Layer(entries)

    def rows(self):
        """The tuples (path, entry), in ascending order."""
        return [(path, entry) for path, entry in self._entries.items()]

    def entry(self, path):
        """The entry at a path, or None."""
        return self._entries.get(path)

    def word(self, path):
        """The word at a path other than the root."""
        entry = self._entries.get(path)
        if entry is not None:
            return word_of(entry)
        return "gone" if self.hides(path[:-1]) else "keep"

    def hides(self, path):
        """Whether all beneath a path is gone that has no entry."""
        for many in range(1, len(path) + 1):
            entry = self._entries.get(path[:many])
            if entry is not None and not is_folder(entry):
                return True
        return False

    def weight(self):
        """The weights of the entries together."""
        return sum([weight_of(entry) for entry in self._entries.values()])


def joined(layers):
    """The Layer that a list of Layers makes together, the lowest one first."""
    whole = Layer()
    for layer in layers:
        whole = whole | layer
    return whole


def entry_together(lower, upper, path):
    """The entry at a path of two Layers together, or None."""
    word = word_over(lower.word(path), upper.word(path))
    hides = lower.hides(path) or upper.hides(path)
    within = lower.hides(path[:-1]) or upper.hides(path[:-1])
    return entry_of(word, hides, within)


def are_entry_rows(thing):
    """Whether thing is what a Layer is made of, but for entries that may be misplaced."""
    return are_rows(thing) and all([is_entry(entry) for _, entry in thing])


def misplaced(entries):
    """The least path of an entry that may not stand where it stands, or None.

    As the paths ascend, those beneath a path follow it at once: so only the last
    one beneath which nothing may stand needs to be looked at, and of folders only
    the parent, as those above it were looked at before.
    """
    closed = None
    for path, entry in entries.items():
        if closed is not None and lies_beneath(path, closed):
            return path
        if takes_away(entry):
            closed = path
        elif len(path) > 1 and not opens(entries.get(path[:-1])):
            return path
        elif not opens(entry):
            closed = path
    return None


def takes_away(entry):
    """Whether an entry puts nothing where it stands."""
    return entry[0] == "gone" or entry[0] == "cleared"


def opens(entry):
    """Whether something may be put beneath the path of an entry, or of None."""
    return entry is not None and (entry[0] == "folder" or entry[0] == "opaque")


def as_written(entries):
    """The entries as a layer has them, which may be passed otherwise beneath opaque ones."""
    written = {}
    opaque = None
    for path, entry in entries.items():
        if opaque is not None and lies_beneath(path, opaque):
            entry = inside_opaque(entry)
        elif entry[0] == "opaque":
            opaque = path
        if entry is not None:
            written[path] = entry
    return written


def inside_opaque(entry):
    """The entry that a layer has for this one beneath an opaque one, or None."""
    if takes_away(entry):
        return None
    if opens(entry):
        return ("folder", 5 if entry[1] is None else entry[1])
    return entry
