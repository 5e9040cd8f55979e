"""The interface: each name in its file, with its arguments, and each method in its own class."""

import ast
import unittest
from pathlib import Path

PACKAGE = Path(__file__).resolve().parent.parent / "recipelayers"

FUNCTIONS = {
    "kinds": ["is_integer(thing)", "is_name(thing)", "is_path(thing)", "is_text(thing)", "is_content(thing)",
              "is_rights(thing)", "is_node(thing)", "is_entry(thing)", "size(content)", "stands(word, node)"],
    "layers": ["joined(layers)"],
    "parting": ["apart(one, other)"],
    "least": ["layer(lower, upper)", "weight(lower, upper)", "table(lower, upper)", "is_table(lower, upper, thing)"],
    "exchange": ["may_swap(lower, upper)", "orders(layers)", "parted(layers, order)"],
    "division": ["may_divide(lower, whole)", "behind(lower, whole)"],
    "steps": ["is_step(thing)", "argued(step, arguments)", "reading(step, tree, source)", "written(step, reading)"],
    "runs": ["moments(recipe, inputs, arguments)"],
    "asking": ["value(recipe, path, answers)"],
    "alike": ["fresh(one, other)", "relevant(one, other)", "compare_at(one, other, path, *, limit=400)",
              "compare(one, other, *, limit=2000)", "is_alike(one, other, thing)"],
    "stale": ["stale(recipe, inputs, arguments, places, *, limit=400)",
              "shown(recipe, inputs, arguments, places, name, at, *, limit=400)"],
    "secrets": ["telling(recipe, inputs, arguments, place, *, limit=400)"],
    "reorderings": ["ordered(recipe, order)", "orders(recipe, *, limit=2000)", "apart(recipe, order, *, limit=2000)",
                    "idle(recipe, *, limit=2000)"],
    "rebases": ["rebase(run, start)"],
    "merges": ["merged(base, one, other, *, limit=2000)"],
    "stores": ["cost(stack, store, begin, end, *, price=1)", "cheapest(stack, store, *, price=1, most=8)",
               "prices(stack, store, *, price=1, most=8)", "is_prices(stack, store, thing, *, price=1, most=8)"],
    "shelves": ["reached(bases, layers)", "is_closed(bases, layers, thing)", "nearest(bases, layers, goal)"],
    "notation": ["show_tree(tree)", "show_layer(layer)", "show_step(step)", "show_recipe(recipe)", "read_tree(text)",
                 "read_layer(text)", "read_step(text)", "read_recipe(text)"],
}

CLASSES = {
    ("errors", "LayerError"): [],
    ("errors", "Wrong"): ["__init__(self, place)"],
    ("errors", "NoFolder"): ["__init__(self, path)"],
    ("errors", "NoLayer"): ["__init__(self, at)"],
    ("errors", "NoQuotient"): [],
    ("errors", "NoStage"): ["__init__(self, name)"],
    ("errors", "NoStep"): ["__init__(self, at)"],
    ("errors", "TooMany"): ["__init__(self, limit)"],
    ("errors", "Unlike"): [],
    ("errors", "NoDeed"): [],
    ("errors", "Nothing"): [],
    ("errors", "Stopped"): ["__init__(self, at)"],
    ("errors", "NoText"): [],
    ("trees", "Tree"): [
        "__init__(self, rows=())", "__eq__(self, other)", "__len__(self)", "__repr__(self)",
        "__contains__(self, path)", "__or__(self, other)", "chain(cls, path, node)", "rows(self)", "paths(self)",
        "names(self, path)", "under(self, path)", "apart(self, other)", "node(self, path)"],
    ("layers", "Layer"): [
        "__init__(self, rows=())", "__eq__(self, other)", "__len__(self)", "__repr__(self)",
        "__contains__(self, path)", "__or__(self, other)", "rows(self)", "entry(self, path)", "word(self, path)",
        "hides(self, path)", "weight(self)"],
    ("stacks", "Stack"): [
        "__init__(self, start, layers=())", "__eq__(self, other)", "__len__(self)", "__or__(self, other)",
        "start(self)", "tree(self)", "after(self, many)", "layers(self)", "givers(self, path)", "exposed(self, at)",
        "walk(self)", "without(self, at)", "squashed(self, begin, end)", "shown_without(self, path, at)"],
    ("recipes", "Recipe"): [
        "__init__(self, stages)", "__eq__(self, other)", "__len__(self)", "__repr__(self)", "stages(self)",
        "start(self, name)", "steps(self, name)", "inputs(self)", "arguments(self)", "with_steps(self, name, steps)"],
    ("runs", "Run"): [
        "__init__(self, recipe, inputs, arguments)", "tree(self, name=None)", "before(self, at, name=None)",
        "layers(self, name=None)", "readings(self, name=None)", "stack(self, name=None)"],
    ("caches", "Cache"): [
        "__init__(self)", "__len__(self)", "__contains__(self, thing)", "fill(self, run)",
        "would(self, recipe, inputs, arguments)", "make(self, recipe, inputs, arguments)"],
    ("stores", "Store"): [
        "__init__(self, layers=())", "__eq__(self, other)", "__len__(self)", "__contains__(self, thing)", "layers(self)",
        "more(self, layers)"],
    ("books", "Book"): [
        "__init__(self, recipe)", "__eq__(self, other)", "__len__(self)", "do(self, deed)", "back(self)", "again(self)",
        "late(self, at, deed)", "drop(self, at)", "recipe(self)", "first(self)", "log(self)", "branch(self)",
        "merged(self, other, *, limit=2000)", "built(self, inputs, arguments)", "trial(self)", "tried(self, deeds)"],
}


def told(body):
    """The functions of a body, as they are written here."""
    return [f"{part.name}({ast.unparse(part.args)})" for part in body if isinstance(part, ast.FunctionDef)]


class TestInterface(unittest.TestCase):

    def body(self, file):
        return ast.parse((PACKAGE / f"{file}.py").read_text()).body

    def test_functions(self):
        for file, functions in FUNCTIONS.items():
            found = told(self.body(file))
            for function in functions:
                self.assertIn(function, found)

    def test_classes(self):
        for (file, name), methods in CLASSES.items():
            classes = [part for part in self.body(file) if isinstance(part, ast.ClassDef) and part.name == name]
            self.assertEqual(len(classes), 1)
            found = told(classes[0].body)
            for method in methods:
                self.assertIn(method, found)


if __name__ == "__main__":
    unittest.main()
