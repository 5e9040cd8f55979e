"""Walks through all answers to the questions that are asked."""

ANSWERS = ("none", "file", "link", "folder")


def all_leaves(look, most):
    """The tuples (leaf, thing) of a walk, in order, or None if there are more than most.

    look returns ("ask", input, path) or ("told", thing) for a list of tuples (input, path, answer);
    a leaf is such a list with which it tells something. It is shown each list behind those that it
    goes on from, and these ahead of all others of their lengths: see Finder.turn_to.
    """
    found, left = [], [[]]
    while len(left) > 0:
        # Each list of answers that is left leads to at least one leaf.
        if len(found) + len(left) > most:
            return None
        leaf = left.pop()
        told = look(leaf)
        if told[0] == "told":
            found.append((leaf, told[1]))
        else:
            left.extend([[*leaf, (told[1], told[2], answer)] for answer in reversed(ANSWERS)])
    return found


def as_answers(leaf):
    """The answers of a leaf as a dict from questions to answers."""
    return {(name, path): answer for name, path, answer in leaf}


def rows_of(leaf):
    """The tuples (input, path, kind) of what the inputs have at least that give the answers of a leaf, ascending."""
    return sorted([(name, path, answer) for name, path, answer in leaf if answer != "none"])
