"""What several tests need: small worlds, a plain model of what layers make, values of other kinds, examples."""

from itertools import product

from recipelayers.errors import LayerError, NoFolder
from recipelayers.layers import Layer
from recipelayers.trees import Tree

FILE = ("file", "x", 4)
OTHER_FILE = ("file", ("made", "zip", ("x", None)), 4)
LINK = ("link", "x")
FIVE = ("folder", 5)
SEVEN = ("folder", 7)
KEPT = ("folder", None)
GONE = ("gone",)
CLEARED = ("cleared",)
NODES = [FILE, LINK, FIVE, SEVEN]
ENTRIES = [FILE, LINK, FIVE, SEVEN, KEPT, ("opaque", None), ("opaque", 5), ("opaque", 7), GONE, CLEARED]
A, AA, AB, B = ("a",), ("a", "a"), ("a", "b"), ("b",)


class Odd:
    """Equal to everything, so that it shows where a kind is not asked before a value."""

    def __eq__(self, other):
        return True

    __hash__ = None


def deep(kind, depth=29):
    """Something of this kind within something of this kind, and so on."""
    thing = kind()
    for _ in range(depth):
        thing = kind([thing])
    return thing


def any_values():
    """Values of all kinds, none of which is a list or a tuple of rows, but for the empty ones."""
    return [
        None, True, False, 0, 1, 5, -1, 10 ** 39, "", "a", "keep", "gone", "folder", b"a", {}, {"a": 1}, set(),
        frozenset(["a"]), range(3), object(), Odd(), len, int, Tree, Tree(), Layer(), NoFolder(A), deep(list),
        deep(tuple), [Odd()], (Odd(),), (Odd(), Odd()), (Odd(), Odd(), Odd()), [[]], ((),), ["a"] * 19000,
        ("a",) * 19000 + (1,), ("file",), ("file", "x"), ("link",), ("folder",), ("opaque",), ("made", "zip"),
        ("gone", None), ("cleared", 5), ("keep",), ["gone"], ["folder", 5], ["link", "x"], ["file", "x", 4],
        ("folder", 8), ("folder", -1), ("folder", True), ("folder", False), ("folder", "5"), ("opaque", True),
        ("opaque", 8), ("opaque", 5, 5), ("link", "x" * 21), ("link", None), ("link", ("made", "zip", ())),
        ("link", "x", 4), ("file", "x", None), ("file", "x", 8), ("file", "x", -1), ("file", "x", True),
        ("file", None, 4), ("file", ["made", "zip", ()], 4), ("file", ("made", "zip", []), 4), ("file", 5, 4),
        ("file", "x" * 21, 4), ("file", ("made", "Zip", ()), 4), ("file", ("made", "zip", ("a",) * 4), 4),
        ("file", ("made", "zip", ("a", ("made", "zip", (5,)))), 4), ("file", ("made", "zip", None), 4),
        ("file", ("kept", "zip", ()), 4), ("file", "x", 4, 4), (b"folder", 5), (5, "folder"), ("FOLDER", 5),
    ]


def wrong_rows(good):
    """Values that are not rows of paths and such things as good."""
    wrong_paths = [(), "a", "ab", ["a"], None, 5, ("A",), ("",), ("a" * 9,), ("a", ""), ("a", 5), ("a", None),
                   ("a", ("b",)), ("a1",), ("a b",), (b"a",), {"a": 1}, Odd(), True]
    rows = [[(path, good)] for path in wrong_paths]
    rows += [[[A, good]], [(A,)], [(A, good, good)], [()], [A], ["ab"], [{A: good}], [(good, A)], [None], [[]], [5]]
    rows += [[(A, good), (A, good)], [(A, good), (B, good), (A, good)], ((A, good), (A, good))]
    rows += [[(B, good), 5], [(B, good), (A, None)], [(B, good), ((), good)]]
    rows += [{A: good}, {(A, good): 1}, frozenset([(A, good)]), "", "ab", b"", None, 0, True, range(0), object()]
    rows += [Tree(), Tree([(A, FIVE)]), Odd(), deep(list), deep(tuple), iter([(A, good)])]
    return rows


def worlds(paths, things, kind):
    """Every object of a class of which the rows have these paths and things, each once, in a fixed order."""
    found = {}
    for row in product([None, *things], repeat=len(paths)):
        rows = [(path, thing) for path, thing in zip(paths, row) if thing is not None]
        try:
            made = kind(rows)
        except NoFolder:
            continue
        found[repr(made)] = made
    return list(found.values())


def small_trees(paths=(A, AA), nodes=tuple(NODES)):
    return worlds(paths, nodes, Tree)


def small_layers(paths=(A, AA), entries=tuple(ENTRIES)):
    return worlds(paths, entries, Layer)


def model_word(layer, path):
    """The word at a path, as [2] tells it, from the entries of a layer."""
    entries = dict(layer.rows())
    if path in entries:
        entry = entries[path]
        words = {"opaque": ("folder", entry[-1]), "gone": "gone", "cleared": "keep"}
        return words.get(entry[0], entry)
    above = [entries.get(path[:many], KEPT)[0] for many in range(1, len(path))]
    return "keep" if all(kind == "folder" for kind in above) else "gone"


def model_stands(word, node):
    """What stands at a path, as the table of [2] tells it."""
    if word == "keep":
        return node
    if word == KEPT:
        return node if node is not None and node[0] == "folder" else FIVE
    return None if word == "gone" else word


def model_laid(tree, layer):
    """The rows of the tree that a layer makes of a tree."""
    nodes = dict(tree.rows())
    paths = sorted({*nodes, *[path for path, _ in layer.rows()]})
    made = [(path, model_stands(model_word(layer, path), nodes.get(path))) for path in paths]
    return [(path, node) for path, node in made if node is not None]


def check_example(test, text):
    """Check an example as the document prints it: what it returns, or the error behind the word raises."""
    space = {}
    # What goes on behind three points belongs to the line before.
    lines = text.replace("\n... ", "\r").strip().split("\n")
    for at, line in enumerate(lines):
        if not line.startswith(">>> "):
            continue
        line = line.replace("\r", "\n")
        told = lines[at + 1] if at + 1 < len(lines) and not lines[at + 1].startswith(">>> ") else None
        if told is None:
            exec(line[4:], space)
        elif told.startswith("raises "):
            with test.assertRaises(LayerError) as caught:
                eval(line[4:], space)
            test.assertEqual("raises " + repr(caught.exception), told)
        else:
            test.assertEqual(repr(eval(line[4:], space)), told)


class Checks:
    """What tests of several files assert. To stand before unittest.TestCase among the base classes."""

    def assertFails(self, error, field, worth, call, *arguments):
        """The call raises exactly this error, which keeps this very object."""
        with self.assertRaises(LayerError) as caught:
            call(*arguments)
        self.assertIs(caught.exception.__class__, error)
        kept = getattr(caught.exception, field)
        self.assertEqual((kept.__class__, kept), (worth.__class__, worth))

    def assertTruth(self, wanted, thing):
        """Exactly True or False."""
        self.assertIs(thing, wanted)
