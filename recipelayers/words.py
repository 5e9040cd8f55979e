"""What the entries of layers say: their words, their weights, and words that are laid on words."""

from recipelayers.kinds import is_folder, size


def word_of(entry):
    """The word at the path of an entry."""
    if entry == ("gone",):
        return "gone"
    if entry == ("cleared",):
        return "keep"
    if entry[0] == "opaque":
        return ("folder", entry[1])
    return entry


def word_over(lower, upper):
    """The word at a path of two layers together, of which the lower and the upper one have these words there."""
    if upper == "keep":
        return lower
    if upper != ("folder", None):
        return upper
    if lower == "keep":
        return upper
    return lower if is_folder(lower) else ("folder", 5)


def words_together(words):
    """The word at a path of layers together that have these words there, the lowest one first."""
    whole = "keep"
    for word in words:
        whole = word_over(whole, word)
    return whole


def entry_of(word, hides, within):
    """The entry with this word at a path where one of two layers together has an entry, or None.

    hides tells whether all beneath the path is gone that has no entry, within
    whether this holds beneath its parent, too.
    """
    if word == "gone":
        return None if within else ("gone",)
    if word == "keep":
        return ("cleared",)
    return ("opaque", word[1]) if is_folder(word) and hides and not within else word


def weight_of(entry):
    """The weight of an entry."""
    if entry[0] == "file":
        return 1 + size(entry[1])
    return 2 if entry[0] == "link" else 1
