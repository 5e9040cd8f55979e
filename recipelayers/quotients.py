"""Which layers, laid on one layer, make another one of it, and what the least of them weighs."""

from recipelayers.kinds import is_folder
from recipelayers.paths import by_parent, either, with_above
from recipelayers.words import weight_of, word_of, word_over

# What a layer says beneath a path as far as it has no entries there, and which ones it may have there.
FREE = "free"        # all is kept; entries of all kinds
BARE = "bare"        # all is kept; gone and cleared entries, as a folder entry is missing above
FILLED = "filled"    # all is gone; nodes
SHUT = "shut"        # all is gone; none
STATES = ("free", "bare", "filled", "shut")


class Quotient:
    """The least layer that makes a layer, the whole, of a lower one when it is laid on it.

    Entries stand only where one of the two has some, or above: anywhere else they would say
    what is said without them. So for each of these paths, from the last one on, and for each
    state of its parent it is enough to know the lightest way to go on.
    """

    def __init__(self, lower, whole):
        self._lower = lower
        self._whole = whole
        paths = with_above(either([path for path, _ in lower.rows()], [path for path, _ in whole.rows()]))
        self._longer = by_parent(paths)
        self._ways = {}
        for path in reversed(paths):
            for state in STATES:
                self._ways[(path, state)] = self._lightest(path, state)

    def exists(self):
        """Whether there is such a layer."""
        return self._weight_beneath((), FREE) is not None

    def entries_beneath(self, path, state=FREE):
        """The rows of its entries beneath a path, for a state there."""
        return [row for longer in self._longer[path] for row in self._entries_at(longer, state)]

    def _entries_at(self, path, state):
        """The rows of its entries at and beneath a path, for a state of the parent."""
        _, entry, beneath = self._ways[(path, state)]
        rows = self.entries_beneath(path, beneath)
        return rows if entry is None else [(path, entry), *rows]

    def _lightest(self, path, state):
        """The lightest way (weight, entry, state beneath) at a path, or None; the entry may be None, too."""
        ways = []
        for entry, beneath in choices(state, self._whole.word(path)):
            weight = self._weight_beneath(path, beneath)
            if weight is not None and self._is_right(path, said(entry, state)) and self._goes_on(path, beneath):
                ways.append((weight if entry is None else weight + weight_of(entry), entry, beneath))
        return min(ways, key=lambda way: way[0]) if len(ways) > 0 else None

    def _weight_beneath(self, path, state):
        """The weight of the lightest entries beneath a path, for a state there, or None."""
        ways = [self._ways[(longer, state)] for longer in self._longer[path]]
        if None in ways:
            return None
        return sum([way[0] for way in ways])

    def _is_right(self, path, word):
        """Whether this word at a path makes there what the whole says."""
        return word_over(self._lower.word(path), word) == self._whole.word(path)

    def _goes_on(self, path, state):
        """Whether a state beneath a path makes what the whole says where nothing has an entry."""
        if state == FREE or state == BARE:
            return self._lower.hides(path) == self._whole.hides(path)
        return self._whole.hides(path)


def said(entry, state):
    """The word that an entry, or None, says where its parent has this state."""
    if entry is not None:
        return word_of(entry)
    return "keep" if state == FREE or state == BARE else "gone"


def choices(state, word):
    """The tuples (entry, state beneath) that may stand at a path, by the state of its parent and the whole's word."""
    puts = word != "keep" and word != "gone"
    if state == SHUT or (state == FILLED and not puts):
        return [(None, SHUT)]
    if state == FILLED:
        return [(word, FILLED if is_folder(word) else SHUT)]
    found = [(None, BARE), (("gone",), SHUT), (("cleared",), SHUT)]
    if state == BARE or not puts:
        return found
    # No entry that puts something weighs less than the one that says the whole's word itself.
    if is_folder(word):
        return [*found, (word, FREE), (("opaque", word[1]), FILLED)]
    return [*found, (word, SHUT)]
