"""Books: recipes that are kept and changed by deeds."""

from recipelayers.caches import Cache
from recipelayers.deeds import common_deeds, done, is_deed
from recipelayers.errors import LayerError, NoDeed, Nothing, Stopped, TooMany, Unlike, Wrong
from recipelayers.kinds import is_integer
from recipelayers.merges import merged
from recipelayers.recipes import Recipe

MOST_DEEDS = 100


class Book:
    """A Recipe, and the log of the deeds that change its last stage."""

    # What a book keeps is replaced, never changed, so that branches and trials may hold the same.

    def __init__(self, recipe):
        if not isinstance(recipe, Recipe):
            raise Wrong(0)
        self._log = []
        self._recipes = [recipe]
        self._undone = []
        self._cache = Cache()

    def __eq__(self, other):
        return isinstance(other, Book) and self._recipes[0] == other._recipes[0] and self._log == other._log

    def __len__(self):
        return len(self._log)

    def do(self, deed):
        """Do a deed; the step that it takes out, or None."""
        self._check_deed(deed)
        taken = self._add(deed)
        self._undone = []
        return taken

    def back(self):
        """Undo the last deed of the log, and return it."""
        if len(self._log) == 0:
            raise Nothing()
        deed = self._log[-1]
        self._log = self._log[:-1]
        self._recipes = self._recipes[:-1]
        self._undone = [*self._undone, deed]
        return deed

    def again(self):
        """Do the deed again that was undone last, and return it."""
        if len(self._undone) == 0:
            raise Nothing()
        deed = self._undone[-1]
        self._add(deed)
        self._undone = self._undone[:-1]
        return deed

    def late(self, at, deed):
        """Put a deed into the log before the one of an index, or behind the last one."""
        if not is_integer(at) or not 0 <= at <= len(self._log):
            raise Wrong(0)
        self._check_deed(deed)
        self._do_from(at, [*self._log[:at], deed, *self._log[at:]])

    def drop(self, at):
        """Take the deed of an index out of the log."""
        if not is_integer(at) or not 0 <= at < len(self._log):
            raise Wrong(0)
        self._do_from(at, self._log[:at] + self._log[at + 1:])

    def recipe(self):
        """The Recipe as it stands."""
        return self._recipes[-1]

    def first(self):
        """The Recipe that was passed."""
        return self._recipes[0]

    def log(self):
        """The list of the deeds that are done."""
        return list(self._log)

    def branch(self):
        """A Book that is the same now and goes on independently."""
        book = Book(self._recipes[0])
        book._log = self._log
        book._recipes = self._recipes
        book._undone = self._undone
        book._cache = self._cache
        return book

    def merged(self, other, *, limit=2000):
        """What comes of merging the Recipes of two Books that have the same first Recipe."""
        if self._recipes[0] != other._recipes[0]:
            raise Unlike()
        common = self._recipes[common_deeds(self._log, other._log)]
        return merged(common, self.recipe(), other.recipe(), limit=limit)

    def built(self, inputs, arguments):
        """Make the recipe with the cache of this Book; its Tree, and the tuples (name, at) of the steps made anew."""
        cache = self._cache.branch()
        told = cache.make(self.recipe(), inputs, arguments)
        self._cache = cache
        return told

    def trial(self):
        """A context manager behind which all is as it was before."""
        return Trial(self)

    def tried(self, deeds):
        """The Recipe that would stand behind these deeds."""
        if not isinstance(deeds, list):
            raise Wrong(0)
        # A branch is left behind as a trial is.
        book = self.branch()
        for at, deed in enumerate(deeds):
            try:
                book.do(deed)
            except LayerError:
                raise Stopped(at) from None
        return book.recipe()

    def _check_deed(self, deed):
        """Raise what do raises of any value, whatever the recipe is."""
        if not is_deed(deed):
            raise NoDeed()
        if len(self._log) >= MOST_DEEDS:
            raise TooMany(MOST_DEEDS)

    def _add(self, deed):
        """Do a deed; the step that it takes out, or None."""
        recipe, taken = done(self._recipes[-1], deed)
        self._log = [*self._log, deed]
        self._recipes = [*self._recipes, recipe]
        return taken

    def _do_from(self, begin, log):
        """Take over a log that begins with the same deeds as the own one up to an index."""
        recipes = self._recipes[:begin + 1]
        for at in range(begin, len(log)):
            try:
                recipe, _ = done(recipes[-1], log[at])
            except LayerError:
                raise Stopped(at) from None
            recipes.append(recipe)
        self._log = log
        self._recipes = recipes
        self._undone = []


class Trial:
    """A block behind which a Book is as it was when the block was entered."""

    def __init__(self, book):
        self._book = book

    def __enter__(self):
        book = self._book
        self._log = book._log
        self._recipes = book._recipes
        self._undone = book._undone
        self._cache = book._cache
        return book.recipe()

    def __exit__(self, kind, value, trace):
        book = self._book
        book._log = self._log
        book._recipes = self._recipes
        book._undone = self._undone
        book._cache = self._cache
