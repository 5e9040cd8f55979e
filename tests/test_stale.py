"""[70] to [72] and [12]: steps that write other layers if inputs or arguments change at places."""

import unittest

from recipelayers.errors import NoStage, NoStep, TooMany
from recipelayers.recipes import Recipe
from recipelayers.runs import Run
from recipelayers.stale import shown, stale
from recipelayers.trees import Tree
from recipe_samples import ANSWERS, Maker, Open, described, model_node, model_relevant
from samples import A, AA, AB, B, FILE, FIVE, LINK, OTHER_FILE, SEVEN, Checks, check_example

EXAMPLE = """
>>> from recipelayers.recipes import Recipe
>>> from recipelayers.stale import shown, stale
>>> from recipelayers.trees import Tree
>>> steps = [("copy", "src", ("lib",), ("app",)), ("run", "cc", (("path", ("app", "m")), ("arg", "flag")), ("out",)), ("rights", ("app", "m"), 6)]
>>> recipe = Recipe([("last", None, steps)])
>>> inputs = {"src": Tree([(("lib",), ("folder", 5)), (("lib", "m"), ("file", "main", 4)), (("lib", "n"), ("file", "note", 4))])}
>>> places = [("content", "src", ("lib", "m")), ("content", "src", ("lib", "n")), ("all", "src", ("lib", "m", "x")), ("arg", "flag")]
>>> [stale(recipe, inputs, {}, [place]) for place in places]
[[('last', 0), ('last', 1), ('last', 2)], [('last', 0)], [], [('last', 1)]]
>>> [shown(recipe, inputs, {}, places[1:3], "last", 1)]
[None]
"""

AAA = ("a", "a", "a")
C = ("c",)
SRC = Tree([(A, FIVE), (AA, FILE), (AB, SEVEN), (("a", "b", "c"), OTHER_FILE), (B, LINK), (C, ("file", "y", 6))])
ALL, CONTENT, ARG = "all", "content", "arg"


def last(*steps, start="src"):
    return Recipe([("last", start, list(steps))])


def layers_of(recipe, inputs, arguments):
    """The Layers of a run by the tuples (name, at)."""
    run = Run(recipe, inputs, arguments)
    return {(name, at): layer for name, _, _ in recipe.stages() for at, layer in enumerate(run.layers(name))}


def may_bring(inputs, place, path):
    """Whether a place may bring another node at a path of its input, in the words of [70]."""
    tree = inputs.get(place[1], Tree())
    kind, _, top = place
    if kind == CONTENT:
        return path == top and path in tree and tree.node(path)[0] == "file"
    parent = tree.node(top[:-1])
    return path[:len(top)] == top and (len(top) < 2 or (parent is not None and parent[0] == "folder"))


def brought(maker, inputs, arguments, places):
    """Some values that places may bring."""
    inputs, arguments, told = dict(inputs), dict(arguments), inputs
    for place in places:
        if maker.random.random() < 0.3:
            continue
        if place[0] == ARG:
            arguments[place[1]] = maker.random.choice(["x", "y", "", "new"])
            continue
        kind, name, top = place
        rows = inputs.get(name, Tree()).rows()
        if kind == ALL and may_bring(told, place, top):
            rows = [(path, node) for path, node in rows if path[:len(top)] != top]
            more = maker.tree(3).rows()
            if top != ():
                more = [] if maker.random.random() < 0.2 else [(top, maker.node())]
                if more and more[0][1][0] == "folder":
                    more += [(top + path, node) for path, node in maker.tree(3).rows()]
            above = dict(rows).get(top[:-1], ("file",))
            rows += more if len(top) < 2 or above[0] == "folder" else []
        elif kind == CONTENT and may_bring(told, place, top):
            text = maker.random.choice(["x", "y", "new", ("made", "cc", ("new",))])
            rows = [(path, ("file", text, node[2]) if path == top and node[0] == "file" else node) for path, node in rows]
        inputs[name] = Tree(rows)
    return inputs, arguments


def model_look(recipe, inputs, arguments, places, name, at):
    """(leaves, stale) of a step, in the words of [72]: how many leaves are counted, and whether it is stale."""
    steps = {told: some for told, _, some in recipe.stages()}
    step = steps[name][at]
    free = [place[1] for place in places if place[0] == ARG]
    named = [place for place in places if place[0] != ARG]
    brings = [place for place in named if may_bring(inputs, place, place[2])]
    told = [step[2]] if step[0] in ("write", "link") else step[2] if step[0] == "run" else ()
    if any(part == ("arg", argument) for part in told for argument in free):
        return 0, True
    if step[0] == "copy" and step[1] not in steps:
        return 0, any(touches(step, place) for place in brings)
    looked = looked_at(recipe, inputs, named, steps, name, at)
    known = {argument: arguments.get(argument, "") for argument in recipe.arguments() if argument not in free}
    plain = Recipe([(stage, start, [texted(some, known) for some in told]) for stage, start, told in recipe.stages()])
    run, leaves, stale_leaves = Run(recipe, inputs, arguments), 0, 0
    for stage, many, path in looked:
        now = part_of(step[0], run.before(many, stage).node(path))
        found = told_nodes(plain, inputs, brings, stage, many, path, {})
        leaves += len(found)
        stale_leaves += len([node for node in found if part_of(step[0], node) != now])
    return leaves, stale_leaves > 0


def texted(step, known):
    """The step with the known texts in place of arguments."""
    if step[0] in ("write", "link") and isinstance(step[2], tuple) and step[2][1] in known:
        return (*step[:2], known[step[2][1]], *step[3:])
    if step[0] == "run":
        reads = [("text", known[read[1]]) if read[0] == "arg" and read[1] in known else read for read in step[2]]
        return (*step[:2], tuple(reads), step[3])
    return step


def touches(step, place):
    """Whether a place makes a copy from an input stale."""
    _, source, q, p = step
    kind, name, path = place
    beneath = path[:len(q)] == q
    if kind == ALL:
        return name == source and (beneath or q[:len(path)] == path)
    return name == source and beneath and (path != q or p != ())


def looked_at(recipe, inputs, named, steps, name, at):
    """The tuples (stage, many, path) at which the reading of a step is looked at."""
    step = steps[name][at]
    if step[0] == "rights":
        return [(name, at, step[1])]
    if step[0] == "run":
        return [(name, at, read[1]) for read in step[2] if read[0] == "path"]
    if step[0] != "copy":
        return []
    _, source, q, p = step
    paths = {q} | {path for path in model_relevant_for(recipe, source, inputs, named) if path[:len(q)] == q}
    paths |= {(*path, model_fresh(recipe, inputs, named)) for path in paths}
    return [(source, len(steps[source]), path) for path in sorted(paths) if path != () and (path != q or p != ())]


def model_relevant_for(recipe, stage, inputs, named):
    """The set of the relevant paths of a stage for places that are no arguments, in the words of [72]."""
    known = {}
    for told in recipe.inputs():
        rows = [*inputs.get(told, Tree()).paths(), *[place[2] for place in named if place[1] == told]]
        known[told] = {path[:many] for path in rows for many in range(len(path) + 1)}
    return model_relevant(recipe, stage, known)


def model_fresh(recipe, inputs, named):
    """The fresh name for places that are no arguments, in the words of [72]."""
    used = {part for tree in inputs.values() for path in tree.paths() for part in path}
    used |= {part for place in named for part in place[2]}
    used |= {part for _, _, some in recipe.stages() for one in some for part in names_in(one)}
    return next(letter for letter in "abcdefghijklmnopqrstuvwxyz" if letter not in used)


def names_in(step):
    """The names in the paths of a step."""
    if step[0] == "copy":
        return [*step[2], *step[3]]
    reads = [read[1] for read in step[2] if read[0] == "path"] if step[0] == "run" else []
    return [part for path in [step[3] if step[0] == "run" else step[1], *reads] for part in path]


def part_of(kind, node):
    """What a step of this kind reads of a node."""
    if kind == "copy":
        return node
    is_file = node is not None and node[0] == "file"
    if kind == "run":
        return node[1] if is_file else None
    return ("file", node[1]) if is_file else ("folder",) if node is not None and node[0] == "folder" else None


def told_nodes(recipe, inputs, brings, stage, many, path, answers):
    """The described nodes at all leaves of the walk at a path behind many steps of a stage."""
    def shows(name, asked):
        if any(place[0] == ALL and place[1] == name and asked[:len(place[2])] == place[2] for place in brings):
            if (name, asked) not in answers:
                raise Open(name, asked)
            return described(answers[(name, asked)], ("of", name, asked))
        node = inputs.get(name, Tree()).node(asked)
        return ("file", ("of", name, asked), node[2]) if (CONTENT, name, asked) in brings else node

    try:
        return [model_node(recipe, stage, many, path, shows)]
    except Open as error:
        return [node for answer in ANSWERS
                for node in told_nodes(recipe, inputs, brings, stage, many, path, {**answers, error.args: answer})]


class StaleChecks(Checks):

    def check(self, recipe, inputs, arguments, places, limit=400):
        """What shown returns for each step is as [71] says, and stale tells the steps for which there is something."""
        now = layers_of(recipe, inputs, arguments)
        found = stale(recipe, inputs, arguments, places, limit=limit)
        for name, at in now:
            told = shown(recipe, inputs, arguments, places, name, at, limit=limit)
            self.assertEqual(told is not None, (name, at) in found)
            if told is not None:
                self.assertIs(told.__class__, tuple)
                self.check_shown(inputs, arguments, places, told)
                self.assertNotEqual(layers_of(recipe, *told)[(name, at)], now[(name, at)])
        self.assertEqual(found, [index for index in now if index in found])
        return found

    def check_shown(self, inputs, arguments, places, told):
        """Inputs and arguments differ from the told ones at the places alone."""
        others, texts = told
        free = {place[1] for place in places if place[0] == ARG}
        named = [place for place in places if place[0] != ARG]
        self.assertTrue(set(inputs) <= set(others) <= {*inputs, *[place[1] for place in named]})
        self.assertTrue(set(arguments) <= set(texts) <= {*arguments, *free})
        self.assertTrue({name for name in texts if texts[name] != arguments.get(name)} <= free)
        for name, tree in others.items():
            old = inputs.get(name, Tree())
            for path in old.apart(tree):
                kinds = {place[0] for place in named if place[1] == name and may_bring(inputs, place, path)}
                self.assertTrue(kinds)
                if kinds == {CONTENT}:
                    self.assertEqual(tree.node(path), ("file", tree.node(path)[1], old.node(path)[2]))


class TestStale(StaleChecks, unittest.TestCase):

    def test_example(self):
        check_example(self, EXAMPLE)

    def test_arguments(self):
        steps = [("write", A, ("arg", "u"), 4), ("link", B, ("arg", "v")), ("run", "cc", (("arg", "u"), ("path", B)), C),
                 ("write", AA, "u", 4), ("run", "cc", (("path", A), ("text", "u")), AB), ("rights", A, 5)]
        recipe = last(*steps)
        for arguments in [{}, {"u": "0"}, {"u": "1", "v": "0", "w": "x"}]:
            # The file at a, which is above the one that is written, is gone when the later steps read it.
            self.assertEqual(self.check(recipe, {}, arguments, [(ARG, "u")]), [("last", 0), ("last", 2)])
            self.assertEqual(self.check(recipe, {}, arguments, [(ARG, "v")]), [("last", 1)])
            self.assertEqual(self.check(recipe, {}, arguments, [(ARG, "w")]), [])
            self.assertEqual(self.check(recipe, {}, arguments, []), [])
        recipe = last(("write", A, ("arg", "u"), 4), ("rights", A, 6), ("run", "cc", (("path", A),), B), ("rights", B, 7))
        self.assertEqual(self.check(recipe, {}, {}, [(ARG, "u")]), [("last", 0), ("last", 1), ("last", 2), ("last", 3)])

    def test_steps_without_a_reading_stay(self):
        steps = [("write", A, "x", 4), ("folder", B, 4), ("link", C, "x"), ("delete", AA), ("clear", B), ("run", "cc", (), C)]
        places = [(ALL, "src", ()), (ARG, "u"), (ALL, "other", A)]
        self.assertEqual(self.check(last(*steps), {"src": SRC}, {}, places), [])

    def test_copies_from_inputs(self):
        recipe = last(("copy", "src", AB, B), ("copy", "src", AB, ()), ("copy", "src", (), C), ("copy", "src", (), ()))
        cases = [
            ([(ALL, "src", ())], [0, 1, 2, 3]), ([(ALL, "src", A)], [0, 1, 2, 3]), ([(ALL, "src", AB)], [0, 1, 2, 3]),
            ([(ALL, "src", ("a", "b", "z"))], [0, 1, 2, 3]), ([(ALL, "src", B)], [2, 3]), ([(ALL, "src", ("z",))], [2, 3]),
            ([(CONTENT, "src", ("a", "b", "c"))], [0, 1, 2, 3]), ([(CONTENT, "src", AA)], [2, 3]),
            # These bring nothing: no folder is above, or no file is there.
            ([(ALL, "src", ("z", "z"))], []), ([(ALL, "src", AAA)], []), ([(ALL, "src", ("b", "b"))], []),
            ([(CONTENT, "src", AB)], []), ([(CONTENT, "src", B)], []), ([(CONTENT, "src", ("z",))], []),
            ([(ALL, "other", ())], []), ([(CONTENT, "other", AA)], []),
        ]
        for places, steps in cases:
            self.assertEqual(self.check(recipe, {"src": SRC}, {}, places), [("last", at) for at in steps])
        # The content of a file at q does not matter if nothing of it is written.
        recipe = last(("copy", "src", AA, B), ("copy", "src", AA, ()))
        self.assertEqual(self.check(recipe, {"src": SRC}, {}, [(CONTENT, "src", AA)]), [("last", 0)])
        self.assertEqual(self.check(recipe, {"src": SRC}, {}, [(ALL, "src", AA)]), [("last", 0), ("last", 1)])
        self.assertEqual(self.check(recipe, {"src": SRC}, {}, [(ALL, "src", AAA)]), [])

    def test_an_input_that_is_missing(self):
        recipe = last(("copy", "src", AA, B), ("rights", A, 5), ("run", "cc", (("path", AB),), C))
        self.assertEqual(self.check(recipe, {}, {}, [(ALL, "src", ())]), [("last", 0), ("last", 1), ("last", 2)])
        self.assertEqual(self.check(recipe, {}, {}, [(ALL, "src", A)]), [("last", 0), ("last", 1), ("last", 2)])
        self.assertEqual(self.check(recipe, {}, {}, [(ALL, "src", AA), (CONTENT, "src", A)]), [])

    def test_rights(self):
        recipe = last(("rights", AA, 6), ("rights", A, 6), ("rights", B, 6), ("rights", ("z",), 6), ("rights", C, 6))
        cases = [([(CONTENT, "src", AA)], [0]), ([(CONTENT, "src", C)], [4]), ([(ALL, "src", AA)], [0]), ([(ALL, "src", A)], [0, 1]),
                 ([(ALL, "src", ())], [0, 1, 2, 3, 4]), ([(ALL, "src", ("z",))], [3]), ([(ALL, "src", B)], [2]),
                 ([(ALL, "src", ("a", "z"))], []), ([(CONTENT, "src", B)], [])]
        for places, steps in cases:
            self.assertEqual(self.check(recipe, {"src": SRC}, {}, places), [("last", at) for at in steps])

    def test_runs(self):
        reads = [("path", AA), ("path", C), ("path", ("z",))]
        recipe = last(("delete", AB), ("run", "cc", tuple(reads), ("x",)), ("run", "cc", (reads[1], ("path", ("a", "b", "c"))), B))
        cases = [([(CONTENT, "src", AA)], [1]), ([(CONTENT, "src", C)], [1, 2]), ([(ALL, "src", ("z",))], [1]),
                 ([(ALL, "src", AAA)], []), ([(CONTENT, "src", ("a", "b", "c"))], []), ([(ALL, "src", AB)], []),
                 ([(ALL, "src", A)], [1]), ([(ALL, "src", B)], [])]
        for places, steps in cases:
            self.assertEqual(self.check(recipe, {"src": SRC}, {}, places), [("last", at) for at in steps])

    def test_copies_from_stages(self):
        steps = [("copy", "by", A, B), ("copy", "by", AB, ()), ("copy", "by", (), C), ("copy", "by", AA, ()),
                 ("copy", "by", ("q", "q"), B)]
        for first in [("by", "src", []), ("by", None, [("copy", "src", (), ())]), ("by", "src", [("clear", ("x",))])]:
            recipe = Recipe([first, ("last", None, steps)])
            cases = [([(CONTENT, "src", AA)], [0, 2]), ([(ALL, "src", AA)], [0, 2, 3]), ([(ALL, "src", AB)], [0, 1, 2]),
                     ([(CONTENT, "src", ("a", "b", "c"))], [0, 1, 2]), ([(ALL, "src", B)], [2]), ([(ALL, "src", ("q",))], [2, 4]),
                     ([(ALL, "src", ())], [0, 1, 2, 3, 4]), ([(ALL, "src", ("a", "z"))], [0, 2]), ([(CONTENT, "src", C)], [2]),
                     ([(ALL, "src", ("q", "q"))], []), ([(CONTENT, "src", A)], [])]
            for places, told in cases:
                found = self.check(recipe, {"src": SRC}, {}, places)
                self.assertEqual([at for name, at in found if name == "last"], told)

    def test_what_a_stage_hides(self):
        by = ("by", "src", [("delete", AA), ("write", C, "x", 4), ("rights", AB, 7)])
        recipe = Recipe([by, ("last", None, [("copy", "by", (), ()), ("copy", "by", AB, B), ("copy", "by", AA, B)])])
        for places, told in [([(CONTENT, "src", AA), (CONTENT, "src", C)], []), ([(ALL, "src", AA)], []), ([(ALL, "src", C)], []),
                             ([(ALL, "src", AAA)], []), ([(CONTENT, "src", ("a", "b", "c"))], [("last", 0), ("last", 1)]),
                             ([(ALL, "src", AB)], [("by", 2), ("last", 0), ("last", 1)])]:
            self.assertEqual(self.check(recipe, {"src": SRC}, {}, places), told)

    def test_several_places_together(self):
        # [12]: what gate has at b/x shows only if src has nothing at a, whatever it is else.
        steps = [("copy", "mid", A, B), ("run", "cc", (("path", ("b", "x")),), C), ("rights", ("b", "x"), 6)]
        recipe = Recipe([("mid", "src", [("clear", A)]), ("last", "gate", steps)])
        hidden, hiding = (ALL, "gate", ("b", "x")), (ALL, "src", A)
        for src, gate in [([(A, FIVE)], [(B, FIVE)]), ([(A, LINK)], [(B, SEVEN), (("b", "x"), LINK)]),
                          ([(A, FILE), (B, FILE)], [(B, FIVE)])]:
            inputs = {"src": Tree(src), "gate": Tree(gate)}
            found = [self.check(recipe, inputs, {}, places) for places in [[hidden], [hiding], [hidden, hiding]]]
            self.assertEqual(found, [[], [("last", 0)], [("last", 0), ("last", 1), ("last", 2)]])

    def test_a_content_with_what_hides_it(self):
        recipe = Recipe([("mid", "src", [("clear", A)]),
                         ("last", "gate", [("copy", "mid", A, B), ("run", "cc", (("path", ("b", "x")),), C)])])
        inputs = {"src": Tree([(A, FIVE)]), "gate": Tree([(B, FIVE), (("b", "x"), FILE)])}
        hidden, hiding = (CONTENT, "gate", ("b", "x")), (ALL, "src", A)
        self.assertEqual([self.check(recipe, inputs, {}, places) for places in [[hidden], [hiding]]],
                         [[], [("last", 0), ("last", 1)]])
        # Where nothing hides it now, its content is told; the other place alone hides it, too.
        inputs = {"src": Tree(), "gate": inputs["gate"]}
        self.assertEqual([self.check(recipe, inputs, {}, places) for places in [[hidden], [hiding]]],
                         [[("last", 1)], [("last", 0), ("last", 1)]])

    def test_an_argument_with_what_hides_it(self):
        recipe = Recipe([("mid", "src", [("clear", A)]),
                         ("last", None, [("write", ("b", "x"), ("arg", "u"), 4), ("copy", "mid", A, B),
                                         ("run", "cc", (("path", ("b", "x")),), C)])])
        inputs, arguments = {"src": Tree([(A, LINK)])}, {"u": "x"}
        hidden, hiding = (ARG, "u"), (ALL, "src", A)
        self.assertEqual([self.check(recipe, inputs, arguments, places) for places in [[hidden], [hiding], [hiding, hidden]]],
                         [[("last", 0)], [("last", 1), ("last", 2)], [("last", 0), ("last", 1), ("last", 2)]])

    def test_texts_that_are_there(self):
        # What is brought is unlike all texts that are there now, wherever these stand.
        made = ("made", "cc", ("0", None, ("made", "ld", ("1", "2"))))
        src = Tree([(A, ("file", made, 4)), (B, ("link", "3")), (C, ("file", "4", 4))])
        recipe = last(("copy", "src", (), ()), ("link", ("d",), "5"), ("write", ("e",), "6", 4),
                      ("run", "cc", (("path", A), ("path", C), ("text", "7"), ), ("f",)), ("link", ("g",), ("arg", "u")),
                      ("rights", A, 6), ("rights", C, 6))
        for text in "0123456789":
            inputs = {"src": src, "other": Tree([(A, ("file", text, 4))])}
            other = Tree([(path, ("file", text, 4) if path == C else node) for path, node in src.rows()])
            for told in [inputs, {"src": other}]:
                for places in [[(CONTENT, "src", A)], [(CONTENT, "src", C)], [(ALL, "src", A)], [(ALL, "src", C)], [(ARG, "u")],
                               [(CONTENT, "src", C), (ARG, "u")], [(ALL, "src", ())], [(ALL, "src", B), (CONTENT, "src", A)]]:
                    self.assertGreater(len(self.check(recipe, told, {"u": text}, places)), 0)

    def test_texts_of_steps_that_are_read_now(self):
        # What is copied to b has to be unlike what is written there, which is read as long as nothing is copied.
        for text in "0123":
            steps = [("write", B, text, 4), ("copy", "src", A, B), ("run", "cc", (("path", B),), C), ("rights", B, 6)]
            for inputs in [{}, {"src": Tree([(C, FILE)])}]:
                self.assertEqual(self.check(last(*steps, start=None), inputs, {}, [(ALL, "src", A)]),
                                 [("last", 1), ("last", 2), ("last", 3)])

    def test_many(self):
        maker = Maker(72)
        found = 0
        for _ in range(900):
            recipe, inputs, arguments = maker.recipe(4), maker.inputs(), maker.arguments()
            places = self.places(maker, inputs)
            try:
                told = self.check(recipe, inputs, arguments, places, limit=1000)
            except TooMany:
                continue
            found += len(told)
            now = layers_of(recipe, inputs, arguments)
            for _ in range(6):
                others = layers_of(recipe, *brought(maker, inputs, arguments, places))
                self.assertEqual([index for index in now if others[index] != now[index] and index not in told], [])
        self.assertGreater(found, 300)

    def test_the_words_of_the_document(self):
        maker = Maker(73)
        counted = []
        for _ in range(400):
            recipe, inputs, arguments = maker.recipe(4), maker.inputs(), maker.arguments()
            places = [*self.places(maker, inputs), (ALL, "in", maker.path(0, 1))]
            looks = [(name, at, *model_look(recipe, inputs, arguments, places, name, at))
                     for name, _, steps in recipe.stages() for at in range(len(steps))]
            most = max([1, *[leaves for _, _, leaves, _ in looks]])
            if most > 600:
                continue
            counted.append(most)
            told = [(name, at) for name, at, _, is_stale in looks if is_stale]
            self.assertEqual(stale(recipe, inputs, arguments, places, limit=most), told)
            if most > 1:
                self.assertFails(TooMany, "limit", most - 1,
                                 lambda: stale(recipe, inputs, arguments, places, limit=most - 1))
            for name, at, leaves, is_stale in looks:
                some = shown(recipe, inputs, arguments, places, name, at, limit=max(1, leaves))
                self.assertEqual(some is not None, is_stale)
                if leaves > 1:
                    self.assertFails(TooMany, "limit", leaves - 1, lambda: shown(
                        recipe, inputs, arguments, places, name, at, limit=leaves - 1))
        self.assertGreater(len([most for most in counted if most > 8]), 50)

    def places(self, maker, inputs):
        found = []
        for _ in range(maker.random.randint(1, 3)):
            kind = maker.random.choice([ALL, CONTENT, CONTENT, ARG])
            if kind == ARG:
                found.append((ARG, maker.random.choice("uvw")))
                continue
            name = maker.random.choice(["in", "out"])
            rows = inputs.get(name, Tree()).rows()
            files = [path for path, node in rows if node[0] == "file"]
            path = maker.random.choice(files) if kind == CONTENT and files else maker.path(0 if kind == ALL else 1, 3)
            found.append((kind, name, path))
        return found


class TestLimitsAndErrors(StaleChecks, unittest.TestCase):

    def limits(self, recipe, inputs, places, name, at, many):
        """A step has this many leaves."""
        for call in [lambda limit: stale(recipe, inputs, {}, places, limit=limit),
                     lambda limit: shown(recipe, inputs, {}, places, name, at, limit=limit)]:
            call(many)
            if many > 1:
                self.assertFails(TooMany, "limit", many - 1, call, many - 1)

    def test_one_leaf_at_each_path_without_a_place(self):
        recipe = last(("run", "cc", (("path", AA), ("path", AA), ("path", C)), B))
        self.limits(recipe, {"src": SRC}, [], "last", 0, 3)
        self.limits(last(("rights", AA, 6)), {"src": SRC}, [(CONTENT, "src", AA)], "last", 0, 1)

    def test_four_answers_where_there_may_be_anything(self):
        for place, many in [(ALL, 4), (CONTENT, 1)]:
            self.limits(last(("rights", AA, 6)), {"src": SRC}, [(place, "src", AA)], "last", 0, many)
        self.limits(last(("rights", AA, 6)), {"src": SRC}, [(ALL, "src", A)], "last", 0, 7)
        self.limits(last(("rights", AA, 6)), {"src": SRC}, [(ALL, "src", ())], "last", 0, 7)
        # As often as it is read; each path by itself.
        self.limits(last(("run", "cc", (("path", AA), ("path", AA), ("path", B)), C)), {"src": SRC}, [(ALL, "src", A)], "last", 0, 15)
        # A place that brings nothing is not asked.
        self.limits(last(("rights", AAA, 6)), {"src": SRC}, [(ALL, "src", AAA)], "last", 0, 1)

    def test_copies_from_stages(self):
        # At b/.. the paths of the rows, those of the places and those above, each with the one of a fresh name.
        inputs = {"src": Tree([(A, FIVE), (AA, FILE), (B, LINK)])}
        by = ("by", "src", [])
        for copy, places, many in [
                (("copy", "by", A, B), [], 4), (("copy", "by", A, ()), [], 3), (("copy", "by", (), B), [], 7),
                (("copy", "by", (), ()), [], 7), (("copy", "by", ("z",), B), [], 2), (("copy", "by", ("z",), ()), [], 1),
                (("copy", "by", A, B), [(CONTENT, "src", AA)], 4), (("copy", "by", A, B), [(CONTENT, "src", ("a", "z", "y"))], 8),
                (("copy", "by", A, B), [(ALL, "src", AA)], 2 + 4 + 7), (("copy", "by", B, A), [(ALL, "src", B)], 4 + 7),
                (("copy", "by", ("z",), B), [(ALL, "src", ())], 4 + 7), (("copy", "by", ("z",), ()), [(ALL, "src", ("z",))], 7)]:
            recipe = Recipe([by, ("last", None, [copy])])
            with self.subTest(copy=copy, places=places):
                self.limits(recipe, inputs, places, "last", 0, many)

    def test_copies_from_stages_that_copy(self):
        # Inputs count as stages: what is copied of their rows and places is relevant.
        inputs = {"src": Tree([(A, FIVE), (AA, FILE), (B, LINK)]), "unused": Tree([(C, FIVE)])}
        by = ("by", None, [("copy", "src", A, ("x", "y"))])
        recipe = Recipe([by, ("last", None, [("copy", "by", ("x",), B)])])
        self.limits(recipe, inputs, [], "last", 0, 6)
        recipe = Recipe([("by", "src", [("delete", ("b", "q"))]), ("last", None, [("copy", "by", B, A)])])
        self.limits(recipe, inputs, [], "last", 0, 4)

    def test_what_is_not_counted(self):
        recipe = last(("copy", "src", (), ()), ("write", A, ("arg", "u"), 4), ("run", "cc", (("arg", "u"), ("path", B)), C),
                      ("copy", "other", A, B), ("delete", A))
        places = [(ALL, "src", ()), (ARG, "u")]
        self.assertEqual(stale(recipe, {"src": SRC}, {}, places, limit=1), [("last", 0), ("last", 1), ("last", 2)])
        for at in range(5):
            shown(recipe, {"src": SRC}, {}, places, "last", at, limit=1)

    def test_the_steps_that_are_asked_for(self):
        recipe = last(("rights", AA, 6), ("rights", C, 6))
        places = [(ALL, "src", AA)]
        self.assertFails(TooMany, "limit", 3, lambda: stale(recipe, {"src": SRC}, {}, places, limit=3))
        self.assertFails(TooMany, "limit", 3, lambda: shown(recipe, {"src": SRC}, {}, places, "last", 0, limit=3))
        self.assertIsNone(shown(recipe, {"src": SRC}, {}, places, "last", 1, limit=3))

    def test_the_usual_limit(self):
        recipe = Recipe([("by", "src", []), ("last", None, [("copy", "by", (), ())])])
        places = [(ALL, "src", ())]
        for many, total in [(36, 400), (37, 411)]:
            # Each path has four leaves, the one beneath it seven; the fresh name at the root has four.
            rows = [(("x" + chr(97 + at // 20) + chr(97 + at % 20),), LINK) for at in range(many)]
            self.limits(recipe, {"src": Tree(rows)}, places, "last", 0, total)
        self.assertFails(TooMany, "limit", 400, stale, recipe, {"src": Tree(rows)}, {}, places)
        self.assertFails(TooMany, "limit", 400, shown, recipe, {"src": Tree(rows)}, {}, places, "last", 0)
        self.assertEqual(stale(recipe, {"src": Tree(rows[:36])}, {}, places), [("last", 0)])

    def test_no_stage_ahead_of_no_step(self):
        recipe = Recipe([("by", "src", [("delete", A)]), ("last", "by", [("rights", AA, 6)] * 2)])
        for name in ["src", "a", "lasts"]:
            for at in [0, 9, -1]:
                self.assertFails(NoStage, "name", name, shown, recipe, {}, {}, [], name, at)
        for name, many in [("by", 1), ("last", 2)]:
            for at in [many, many + 1, -1, -2, 10 ** 39, False]:
                self.assertFails(NoStep, "at", at, shown, recipe, {}, {}, [], name, at)
                self.assertFails(NoStep, "at", at, lambda: shown(recipe, {}, {}, [(ALL, "src", ())], name, at, limit=1))

    def test_parameters_are_passed_by_keyword(self):
        with self.assertRaises(TypeError):
            stale(last(), {}, {}, [], 400)
        with self.assertRaises(TypeError):
            shown(last(("delete", A)), {}, {}, [], "last", 0, 400)

    def test_arguments_stay_and_results_are_new(self):
        recipe = last(("rights", AA, 6), ("write", B, ("arg", "u"), 4))
        inputs, arguments, places = {"src": SRC}, {"u": "x"}, [(ALL, "src", A), (ARG, "u"), (CONTENT, "src", C)]
        first = stale(recipe, inputs, arguments, places)
        first.clear()
        self.assertEqual(stale(recipe, inputs, arguments, places), [("last", 0), ("last", 1)])
        for at in range(2):
            others, texts = shown(recipe, inputs, arguments, places, "last", at)
            again = shown(recipe, inputs, arguments, places, "last", at)
            self.assertEqual((others, texts), again)
            others.clear()
            texts.clear()
            self.assertEqual(shown(recipe, inputs, arguments, places, "last", at), again)
        self.assertEqual([inputs, arguments, places], [{"src": SRC}, {"u": "x"},
                                                       [(ALL, "src", A), (ARG, "u"), (CONTENT, "src", C)]])


if __name__ == "__main__":
    unittest.main()
