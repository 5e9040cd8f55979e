"""Papers that show for a path, leaf by leaf, what recipes have there; any value may be handed in as one."""

from recipelayers.asking import value
from recipelayers.kinds import is_name, is_path, is_plain
from recipelayers.walks import ANSWERS, as_answers


def is_told(recipes, path, thing):
    """Whether thing is a complete list of tuples (leaf, node) that tell what all these recipes have at a path."""
    if not is_list_of_pairs(thing) or not all([is_leaf(leaf) for leaf, _ in thing]):
        return False
    if not are_complete([leaf for leaf, _ in thing]):
        return False
    for leaf, node in thing:
        for recipe in recipes:
            told = value(recipe, path, as_answers(leaf))
            if told[0] != "told" or not is_plain(node, told[1]):
                return False
    return True


def is_list_of_pairs(thing):
    """Whether thing is a list of tuples of two items."""
    return isinstance(thing, list) and all([isinstance(pair, tuple) and len(pair) == 2 for pair in thing])


def is_leaf(thing):
    """Whether thing is a list of answered questions, none twice, each behind those at the paths above it."""
    if not isinstance(thing, list) or not all([is_answered(row) for row in thing]):
        return False
    answers = {}
    for name, path, answer in thing:
        # What is above the parent was asked before the parent was.
        if (name, path) in answers or (len(path) > 1 and answers.get((name, path[:-1])) != "folder"):
            return False
        answers[(name, path)] = answer
    return True


def is_answered(thing):
    """Whether thing is a tuple (input, path, answer)."""
    if not isinstance(thing, tuple) or len(thing) != 3 or not is_name(thing[0]) or not is_path(thing[1]):
        return False
    return len(thing[1]) > 0 and isinstance(thing[2], str) and thing[2] in ANSWERS


def are_complete(leaves):
    """Whether leaves are what comes of asking, question by question, with all answers in order."""
    left = [(leaves, 0)]
    while len(left) > 0:
        some, many = left.pop()
        if len(some) != 1 or len(some[0]) != many:
            groups = by_answer(some, many)
            if groups is None:
                return False
            left.extend([(group, many + 1) for group in groups])
    return True


def by_answer(leaves, many):
    """The leaves with each answer to the question that they all have behind the first many, or None."""
    if not all([len(leaf) > many for leaf in leaves]):
        return None
    if not all([leaf[many][:2] == leaves[0][many][:2] for leaf in leaves]):
        return None
    told = [leaf[many][2] for leaf in leaves]
    if told != [answer for answer in ANSWERS for _ in range(told.count(answer))]:
        return None
    groups = [[leaf for leaf in leaves if leaf[many][2] == answer] for answer in ANSWERS]
    return None if [] in groups else groups
