"""Values for what described nodes leave open."""

from recipelayers.nodes import node_of, rights_of

USUAL_RIGHTS = 5


def unused_texts(many, used):
    """This many different texts, none of which is used."""
    taken = {text: True for text in used}
    found = []
    number = 0
    while len(found) < many:
        if str(number) not in taken:
            found.append(str(number))
        number += 1
    return found


def parting_rights(one, other):
    """Rights of inputs, by questions, with which two unlike described nodes do not have the same rights.

    Rights that are not told here are the usual ones. If they are the same unknown, nothing parts them.
    """
    first, second = rights_of(one), rights_of(other)
    if isinstance(first, tuple):
        return {first[1:]: rights_unlike(second)}
    if isinstance(second, tuple):
        return {second[1:]: rights_unlike(first)}
    return {}


def rights_unlike(rights):
    """Rights that are neither these nor the usual ones."""
    return USUAL_RIGHTS + 1 if rights != USUAL_RIGHTS + 1 else USUAL_RIGHTS + 2


def nodes_for(rows, texts, rights):
    """The tuples (input, path, node) for tuples (input, path, kind), with texts in order and rights by questions."""
    return [(name, path, node_of(kind, text, rights.get((name, path), USUAL_RIGHTS)))
            for (name, path, kind), text in zip(rows, texts)]
