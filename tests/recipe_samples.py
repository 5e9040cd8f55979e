"""What the tests of recipes need: steps, recipes and trees made from a seed, and a plain model of [50] and [2]."""

import random

from recipelayers.errors import NoFolder, TooMany
from recipelayers.layers import Layer
from recipelayers.recipes import Recipe
from recipelayers.trees import Tree
from samples import A, AA, AB, B, FIVE, model_laid

NAMES = ("a", "b")
ANSWERS = ("none", "file", "link", "folder")
STEPS = [
    ("write", AA, "x", 4), ("write", A, ("arg", "u"), 0), ("folder", AA, 7), ("link", AA, "x"), ("link", B, ("arg", "u")),
    ("delete", AA), ("clear", A), ("copy", "src", A, B), ("copy", "src", (), A), ("copy", "src", AB, ()),
    ("copy", "src", (), ()), ("rights", AA, 6), ("run", "cc", (), AA),
    ("run", "cc", (("path", AB), ("arg", "u"), ("text", "t")), ("a", "b", "c", "d")),
]


def model_entries(step, tree, source):
    """The entries that a step without arguments writes, in the words of [50], as a dict of the layer's rows."""
    kind = step[0]
    path = step[3] if kind in ("copy", "run") else step[1]
    entries = {path[:many]: ("folder", None) for many in range(1, len(path))}
    if kind == "write":
        entries[path] = ("file", step[2], step[3])
    elif kind in ("folder", "link"):
        entries[path] = (kind, step[2])
    elif kind == "run":
        nodes = [tree.node(read[1]) if read[0] == "path" else ("file", read[1]) for read in step[2]]
        parts = [node[1] if node is not None and node[0] == "file" else None for node in nodes]
        entries[path] = ("file", ("made", step[1], tuple(parts)), 5)
    elif kind == "copy":
        entries.update(model_copied(step[2], path, source))
    elif kind == "rights":
        node = tree.node(path)
        if node is None or node[0] == "link":
            return {}
        entries[path] = ("file", node[1], step[2]) if node[0] == "file" else ("folder", step[2])
    else:
        return {path: ("gone",) if kind == "delete" else ("cleared",)}
    return entries


def model_copied(origin, path, source):
    """The entries of a copy, but for those above its path."""
    whole = [((), ("folder", None)), *source.rows()]
    found = {}
    for told, node in whole:
        if told[:len(origin)] != origin:
            continue
        goal = path + told[len(origin):]
        top = goal == path or (path == () and len(goal) == 1)
        if goal != ():
            found[goal] = ("opaque", node[1]) if top and node[0] == "folder" else node
    return found


def model_argued(step, arguments):
    """The step with the texts of arguments."""
    if step[0] in ("write", "link") and isinstance(step[2], tuple):
        return (*step[:2], arguments.get(step[2][1], ""), *step[3:])
    if step[0] == "run":
        reads = [("text", arguments.get(read[1], "")) if read[0] == "arg" else read for read in step[2]]
        return (*step[:2], tuple(reads), step[3])
    return step


def model_run(recipe, inputs, arguments):
    """The Trees of all stages by their names: lists of those before each step and behind the last one."""
    trees = {}
    for name, start, steps in recipe.stages():
        tree = model_source(start, trees, inputs)
        trees[name] = walked = [tree]
        for step in steps:
            step = model_argued(step, arguments)
            source = model_source(step[1], trees, inputs) if step[0] == "copy" else None
            tree = Tree(model_laid(tree, Layer(list(model_entries(step, tree, source).items()))))
            walked.append(tree)
    return trees


def model_source(name, trees, inputs):
    """The Tree of a stage, of an input, or the empty one."""
    if name is None:
        return Tree()
    return trees[name][-1] if name in trees else inputs.get(name, Tree())


class Open(Exception):
    """A question without an answer."""


def described(answer, of):
    """The described node that an answer tells, with these unknowns."""
    return {"none": None, "file": ("file", of, of), "link": ("link", of), "folder": ("folder", of)}[answer]


def answered(answers):
    """What an input has at a path, by answers alone, as if it were told by what is above."""
    def shows(name, path):
        if (name, path) not in answers:
            raise Open(name, path)
        return described(answers[(name, path)], ("of", name, path))

    return shows


def model_node(recipe, name, many, path, shows):
    """The described node at a path of a stage behind its first many steps, in the words of [61].

    shows tells what an input has at a path, or raises Open.
    """
    stages = {told: (start, steps) for told, start, steps in recipe.stages()}

    def asked(name, t):
        for length in range(1, len(t)):
            node = shows(name, t[:length])
            if node is None or node[0] != "folder":
                return None
        return shows(name, t)

    def whole(name, t):
        return found(*stages[name], t) if name in stages else asked(name, t)

    def above(start, steps, t):
        node = found(start, steps, t)
        return node if node is not None and node[0] == "folder" else ("folder", 5)

    def content(start, steps, t):
        node = found(start, steps, t)
        return node[1] if node is not None and node[0] == "file" else None

    def put(start, before, step):
        kind = step[0]
        if kind == "write":
            return ("file", step[2], step[3])
        if kind != "run":
            return (kind, step[2])
        parts = [read if read[0] == "arg" else read[1] if read[0] == "text" else content(start, before, read[1])
                 for read in step[2]]
        return ("file", ("made", step[1], tuple(parts)), 5)

    def found(start, steps, t):
        if not steps:
            return None if start is None else whole(start, t)
        *before, step = steps
        kind, p = step[0], step[3] if step[0] in ("copy", "run") else step[1]
        is_above, is_beneath = p[:len(t)] == t and p != t, t[:len(p)] == p and p != t
        if kind in ("write", "link", "folder", "run"):
            if t == p:
                return put(start, before, step)
            if is_above:
                return above(start, before, t)
            if is_beneath and kind != "folder":
                return None
        elif kind == "delete" and (t == p or is_beneath):
            return None
        elif kind == "clear" and is_beneath:
            return None
        elif kind == "rights" and t == p:
            node = found(start, before, t)
            return node if node is None or node[0] == "link" else (*node[:-1], step[2])
        elif kind == "copy":
            q = step[2]
            if is_above or (t == p and q == ()):
                return above(start, before, t)
            if t == p or is_beneath:
                s = t[len(p):]
                first = q + s[:1] if p == () else q
                if (q == () and p != ()) or whole(step[1], first) is not None:
                    return whole(step[1], q + s)
        return found(start, before, t)

    start, steps = stages[name]
    return found(start, steps[:many], path)


def model_relevant(recipe, wanted, known):
    """The set of the relevant paths of a stage, in the words of [62]; known are those of what counts as a stage, too."""
    stages = {name: (start, steps) for name, start, steps in recipe.stages()}
    if wanted not in stages:
        return known.get(wanted, set())
    start, steps = stages[wanted]
    found = {()} | model_relevant(recipe, start, known)
    for step in steps:
        p = step[3] if step[0] in ("copy", "run") else step[1]
        found.add(p)
        if step[0] == "copy":
            found |= {p + path[len(step[2]):] for path in model_relevant(recipe, step[1], known)
                      if path[:len(step[2])] == step[2]}
    return found | {path[:many] for path in found for many in range(len(path))}


class Maker:
    """Makes things from a seed, the same ones each time."""

    def __init__(self, seed):
        self.random = random.Random(seed)

    def path(self, least=1, most=3):
        return tuple(self.random.choice(NAMES) for _ in range(self.random.randint(least, most)))

    def text(self):
        return self.random.choice(["x", "y", ("arg", "u"), ("arg", "v")])

    def step(self, sources):
        kind = self.random.choice(["write", "folder", "link", "delete", "clear", "rights", "run", *["copy"] * 3])
        if kind == "write":
            return (kind, self.path(), self.text(), self.random.choice([4, 5]))
        if kind in ("folder", "rights"):
            return (kind, self.path(), self.random.choice([4, 5]))
        if kind == "link":
            return (kind, self.path(), self.text())
        if kind == "copy":
            return (kind, self.random.choice(sources), self.path(0, 2), self.path(0, 2))
        if kind == "run":
            reads = [self.read() for _ in range(self.random.randint(0, 3))]
            return (kind, self.random.choice(["cc", "ld"]), tuple(reads), self.path())
        return (kind, self.path())

    def read(self):
        return self.random.choice([("path", self.path()), ("path", self.path()), ("arg", "u"), ("text", "t")])

    def recipe(self, most=4, stages=3):
        """A Recipe of up to this many stages with up to this many steps each."""
        while True:
            told, names = [], []
            for name in ("sa", "sb", "sc")[:self.random.randint(1, stages)]:
                sources = [*names, "in", "out"]
                steps = [self.step(sources) for _ in range(self.random.randint(0, most))]
                told.append((name, self.random.choice([None, *sources]), steps))
                names.append(name)
            try:
                return Recipe(told)
            except TooMany:
                continue

    def changed(self, recipe):
        """The Recipe with a last stage that is a little different: exchanged, doubled, taken out or put in."""
        name, _, steps = recipe.stages()[-1]
        way = self.random.randint(0, 3)
        at = self.random.randint(0, len(steps))
        if way == 0:
            self.random.shuffle(steps)
        elif way == 1:
            steps.insert(at, self.random.choice(steps) if steps else ("clear", A))
        elif way == 2:
            del steps[at:at + 1]
        else:
            steps.insert(at, self.step(["in"]))
        try:
            return recipe.with_steps(name, steps)
        except TooMany:
            return recipe

    def node(self):
        rights = self.random.choice([4, 5, 6])
        kind = self.random.choice(["file", "link", "folder", "folder"])
        content = self.random.choice(["x", "y", "p", ("made", "cc", ()), ("made", "ld", ("t", None))])
        return {"file": ("file", content, rights), "link": ("link", self.random.choice("xy")),
                "folder": ("folder", rights)}[kind]

    def tree(self, most=6):
        """A Tree of a few rows."""
        rows = {}
        for _ in range(self.random.randint(0, most)):
            path = self.path()
            for many in range(1, len(path)):
                rows.setdefault(path[:many], FIVE)
            rows[path] = self.node()
        while True:
            try:
                return Tree(list(rows.items()))
            except NoFolder as error:
                del rows[error.path]

    def inputs(self):
        return {name: self.tree() for name in ("in", "out") if self.random.random() < 0.85}

    def arguments(self):
        return {name: self.random.choice(["x", "y", "w"]) for name in "uv" if self.random.random() < 0.7}
