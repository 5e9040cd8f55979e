"""Trees, layers, steps and recipes as texts."""

from recipelayers.errors import LayerError, NoText
from recipelayers.layers import Layer
from recipelayers.recipes import Recipe
from recipelayers.scanning import scanned_rows, scanned_stages, scanned_step
from recipelayers.steps import is_step
from recipelayers.trees import Tree
from recipelayers.writing import row_line, stage_lines, step_text


def show_tree(tree):
    """The text of a Tree."""
    return rows_text(tree.rows())


def show_layer(layer):
    """The text of a Layer."""
    return rows_text(layer.rows())


def show_step(step):
    """The text of a step."""
    return step_text(step)


def show_recipe(recipe):
    """The text of a Recipe."""
    return "\n".join([line for stage in recipe.stages() for line in stage_lines(stage)])


def read_tree(text):
    """The Tree that has this text, any value."""
    rows = scanned_rows(text)
    try:
        tree = Tree(rows)
    except LayerError:
        raise NoText() from None
    check_order(rows, tree.rows())
    return tree


def read_layer(text):
    """The Layer that has this text, any value."""
    rows = scanned_rows(text)
    try:
        layer = Layer(rows)
    except LayerError:
        raise NoText() from None
    check_order(rows, layer.rows())
    return layer


def read_step(text):
    """The step that has this text, any value."""
    step = scanned_step(text)
    if not is_step(step):
        raise NoText()
    return step


def read_recipe(text):
    """The Recipe that has this text, any value."""
    stages = scanned_stages(text)
    try:
        recipe = Recipe(stages)
    except LayerError:
        raise NoText() from None
    return recipe


def rows_text(rows):
    """The text of the rows of a Tree or a Layer."""
    return "\n".join([row_line(row) for row in rows])


def check_order(told, rows):
    """Raise NoText unless the rows that a text tells are these, which a Tree or a Layer has."""
    if told != rows:
        raise NoText()
