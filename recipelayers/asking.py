"""What a recipe has at a path for all inputs, and what it needs to know of them."""

from recipelayers.finding import Answers, Finder


def value(recipe, path, answers):
    """("told", node) with the described node at a path, or ("ask", input, path) with the first open question."""
    return Finder(recipe, Answers(answers)).value(path)
