"""[105] and [106]: trees, layers, steps and recipes as texts."""

import unittest

from recipelayers.errors import LayerError, NoText
from recipelayers.layers import Layer
from recipelayers.notation import (read_layer, read_recipe, read_step, read_tree, show_layer, show_recipe, show_step,
                                   show_tree)
from recipelayers.recipes import Recipe
from recipelayers.trees import Tree
from recipe_samples import STEPS, Maker
from samples import (A, AA, AB, B, FILE, FIVE, LINK, Checks, Odd, any_values, check_example, deep, small_layers,
                     small_trees)

EXAMPLE = """
>>> from recipelayers.notation import read_step, show_tree
>>> from recipelayers.trees import Tree
>>> show_tree(Tree.chain(("a", "b"), ("file", ("made", "zip", ("x", None)), 4)))
'a folder 5\\na/b file 4 zip("x",-)'
>>> read_step('run zip a/b,$who c')
('run', 'zip', (('path', ('a', 'b')), ('arg', 'who')), ('c',))
"""

SIGNS = "".join(chr(number) for number in range(32, 127) if chr(number) != "%") + "\n"
TEXTS = ["", "x", '"', "\\", "\n", '\\"', "\\n", 'a"b\\c\nd', " ", "  ", '""', "a b", "-", "$u", "/", ",", "()", 'zip("x")', "\\\\\\",
         "\n\n", "x" * 20, "\\" * 20, '"' * 20, "\n" * 20]
LINE = {"\\": "\\\\", '"': '\\"', "\n": "\\n"}


def string(text):
    """A string as it is written."""
    return '"' + "".join(LINE.get(sign, sign) for sign in text) + '"'


def path_of(names):
    return "/".join(names) or "/"


def content(told):
    """A content as it is written."""
    if told is None:
        return "-"
    return string(told) if isinstance(told, str) else told[1] + "(" + ",".join(map(content, told[2])) + ")"


def entry(told):
    """A node or an entry as it is written."""
    rights = "-" if told[-1] is None else str(told[-1])
    texts = {"file": lambda: f"file {rights} {content(told[1])}", "link": lambda: f"link {string(told[1])}"}
    return texts.get(told[0], lambda: told[0] if len(told) == 1 else f"{told[0]} {rights}")()


def text_of(told):
    return string(told) if isinstance(told, str) else "$" + told[1]


def read_of(read):
    return {"path": path_of, "arg": lambda name: "$" + name, "text": string}[read[0]](read[1])


def step_of(step):
    """A step as it is written."""
    kind = step[0]
    if kind == "write":
        return f"write {path_of(step[1])} {step[3]} {text_of(step[2])}"
    if kind == "link":
        return f"link {path_of(step[1])} {text_of(step[2])}"
    if kind == "copy":
        return f"copy {step[1]} {path_of(step[2])} {path_of(step[3])}"
    if kind == "run":
        return f"run {step[1]} {','.join(map(read_of, step[2])) or '-'} {path_of(step[3])}"
    return " ".join([kind, path_of(step[1]), *map(str, step[2:])])


def rows_of(rows):
    return "\n".join(f"{path_of(path)} {entry(told)}" for path, told in rows)


def recipe_of(recipe):
    return "\n".join(line for name, start, steps in recipe.stages()
                     for line in [f"stage {name} {start or '-'}", *map(step_of, steps)])


def nested(depth, inner=()):
    """A made content with this many within one another."""
    told = ("made", "zip", inner)
    for _ in range(depth - 1):
        told = ("made", "zip", (told,))
    return told


def some_recipes(many=120):
    maker = Maker(105)
    return [maker.recipe(8 if at % 5 == 0 else 3) for at in range(many)]


def some_trees():
    maker = Maker(106)
    contents = [*TEXTS, ("made", "cc", ()), ("made", "cc", (None,)), ("made", "cc", (None, "x", None)),
                ("made", "abcdefgh", (("made", "a", ("\\", None, ("made", "b", ()))), '"')), nested(20), nested(20, ("x", None, "\n"))]
    trees = [Tree([(A, ("file", told, 4))]) for told in contents] + [Tree([(A, ("link", text))]) for text in TEXTS]
    trees += [Tree([(A, ("file", "x", rights)), (B, ("folder", rights))]) for rights in range(8)]
    trees += [Tree.chain(("abcdefgh",) * many, FILE) for many in range(1, 21)]
    return trees + [maker.tree(12) for _ in range(60)] + small_trees()


SHOWS = {"tree": (show_tree, read_tree), "layer": (show_layer, read_layer), "step": (show_step, read_step),
         "recipe": (show_recipe, read_recipe)}
READS = [read for _, read in SHOWS.values()]


class NotationChecks(Checks):

    def assertNoText(self, read, thing):
        with self.assertRaises(LayerError) as caught:
            read(thing)
        self.assertIs(caught.exception.__class__, NoText)

    def check(self, kind, thing, text):
        """A thing has this text, and this is read as the thing again."""
        show, read = SHOWS[kind]
        self.assertEqual(show(thing), text)
        again = read(text)
        self.assertEqual([again.__class__, again], [thing.__class__, thing])
        # So that there are no True and 1, no tuple and list in place of one another.
        self.assertEqual(repr(again), repr(thing))

    def check_near(self, kind, text, signs):
        """What is read of a text that is spoilt by one sign has just this text; otherwise it is none."""
        show, read = SHOWS[kind]
        found = []
        for at in range(len(text) + 1):
            near = [text[:at] + text[at + 1:], *[text[:at] + sign + text[at:] for sign in signs],
                    *[text[:at] + sign + text[at + 1:] for sign in signs], text[:at] + text[at:at + 1] * 2 + text[at + 1:]]
            for other in near:
                try:
                    thing = read(other)
                except NoText:
                    found.append(False)
                    continue
                self.assertEqual(show(thing), other)
                found.append(True)
        self.assertIn(False, found)


class TestTrees(NotationChecks, unittest.TestCase):

    def test_example(self):
        check_example(self, EXAMPLE)

    def test_no_rows(self):
        self.check("tree", Tree(), "")
        self.check("layer", Layer(), "")

    def test_nodes(self):
        for node, text in [(("file", "x", 4), 'file 4 "x"'), (("file", "", 0), 'file 0 ""'), (("link", "a b"), 'link "a b"'),
                           (("folder", 7), "folder 7"), (("file", ("made", "zip", ()), 5), "file 5 zip()"),
                           (("file", ("made", "zip", (None,)), 5), "file 5 zip(-)"), (("link", '\\"\n'), 'link "\\\\\\"\\n"'),
                           (("file", ("made", "a", ("x", None, ("made", "b", ("-",)))), 1), 'file 1 a("x",-,b("-"))')]:
            self.check("tree", Tree([(A, node)]), "a " + text)
            self.check("layer", Layer([(A, node)]), "a " + text)

    def test_all_signs_in_strings(self):
        for sign in SIGNS:
            for text in [sign, sign * 2, "a" + sign + "n", sign + "\\"]:
                self.check("tree", Tree([(A, ("link", text))]), "a link " + string(text))
                self.check("step", ("write", A, text, 4), "write a 4 " + string(text))

    def test_rows_in_order(self):
        tree = Tree([(B, LINK), (A, FIVE), (("a", "bb"), FILE), (AB, FIVE), (("a", "b", "z"), FILE), (AA, FILE)])
        self.check("tree", tree, 'a folder 5\na/a file 4 "x"\na/b folder 5\na/b/z file 4 "x"\na/bb file 4 "x"\nb link "x"')

    def test_many_trees(self):
        for tree in some_trees():
            self.check("tree", tree, rows_of(tree.rows()))
            # All texts of trees are those of layers, too.
            self.check("layer", Layer(tree.rows()), rows_of(tree.rows()))

    def test_greater_than_what_is_passed_elsewhere(self):
        many = Tree([((one + other,), FILE) for one in "abcdefghijklmnopqrstuvwxyz" for other in "abcdefghijklmnopqrstuvwxyz"])
        self.check("tree", many, rows_of(many.rows()))
        wide = nested(1, tuple(nested(1, tuple(nested(1, ("x",) * 3) for _ in range(3))) for _ in range(3)))
        self.check("tree", Tree([(A, ("file", wide, 4))]), "a file 4 " + content(wide))

    def test_twenty_names_and_twenty_one(self):
        for many, is_read in [(19, True), (20, True), (21, False), (40, False)]:
            tree = Tree.chain(("a",) * many, FILE)
            text = rows_of(tree.rows())
            self.assertEqual(show_tree(tree), text)
            self.assertEqual(show_layer(Layer(tree.rows())), text)
            gone = f"{'/'.join('a' * many)} gone"
            if is_read:
                self.assertEqual([read_tree(text), read_layer(gone).rows()], [tree, [(("a",) * many, ("gone",))]])
            else:
                for read, told in [(read_tree, text), (read_layer, text), (read_layer, gone)]:
                    self.assertNoText(read, told)

    def test_twenty_made_ones_and_twenty_one(self):
        for inner in [(), ("x",), (None, None, None)]:
            for depth, is_read in [(19, True), (20, True), (21, False), (24, False)]:
                for told in [nested(depth, inner), ("made", "ld", (None, "x", nested(depth - 1, inner)))]:
                    tree = Tree([(A, ("file", told, 4))])
                    text = "a file 4 " + content(told)
                    self.assertEqual([show_tree(tree), show_layer(Layer(tree.rows()))], [text, text])
                    if is_read:
                        self.assertEqual([read_tree(text), read_layer(text)], [tree, Layer(tree.rows())])
                    else:
                        self.assertNoText(read_tree, text)
                        self.assertNoText(read_layer, text)

    def test_integers(self):
        # Rights go no further than 7, however they are written.
        for rights in ["8", "9", "10", "70", "00", "04", "-1", "+4", "4.0", "4 ", " 4", "", "True", "None", "four", "0" * 39 + "4", "0" * 40 + "4",
                       "1" * 40, "1" * 41, "4" * 5000, "--", "4-"]:
            for line in [f'a file {rights} "x"', f"a folder {rights}"]:
                self.assertNoText(read_tree, line)
                self.assertNoText(read_layer, line)
            self.assertNoText(read_layer, f"a opaque {rights}")
            for line in [f'write a {rights} "x"', f"folder a {rights}", f"rights a {rights}"]:
                self.assertNoText(read_step, line)
                self.assertNoText(read_recipe, f"stage last -\n{line}")


class TestLayers(NotationChecks, unittest.TestCase):

    def test_entries(self):
        for told, text in [(("folder", None), "folder -"), (("opaque", None), "opaque -"), (("opaque", 5), "opaque 5"), (("gone",), "gone"),
                           (("cleared",), "cleared"), (("folder", 0), "folder 0"), (("opaque", 7), "opaque 7")]:
            self.check("layer", Layer([(A, told)]), "a " + text)
        self.check("layer", Layer([(("d", "e"), ("gone",)), (A, ("opaque", 7)), (AB, ("folder", None))]),
                   "a opaque 7\na/b folder 5\nd/e gone")

    def test_many_layers(self):
        for layer in small_layers() + [one | other for one in small_layers()[::3] for other in small_layers()[::4]]:
            self.check("layer", layer, rows_of(layer.rows()))

    def test_a_layer_read_as_a_tree(self):
        for layer in small_layers():
            text = show_layer(layer)
            if all(told[0] in ("file", "link", "folder") and told != ("folder", None) for _, told in layer.rows()):
                self.assertEqual(read_tree(text), Tree(layer.rows()))
            else:
                self.assertNoText(read_tree, text)

    def test_what_a_layer_writes_otherwise(self):
        # Beneath an opaque entry a layer has no gone, cleared or opaque entries, and no folders without rights.
        for line in ["a/b gone", "a/b cleared", "a/b opaque 5", "a/b opaque -", "a/b folder -", "a/b folder 5\na/b/c gone"]:
            self.assertNoText(read_layer, "a opaque 5\n" + line)
            if "opaque" not in line and "folder -" not in line:
                read_layer("a folder 5\n" + line)
        self.assertEqual(read_layer("a opaque -\na/b folder 5").rows(), [(A, ("opaque", None)), (AB, FIVE)])

    def test_misplaced_entries(self):
        for text in ['a/b link "x"', "a gone\na/b gone", 'a link "x"\na/b gone', "a cleared\na/b cleared", "a gone\na/b folder 5",
                     'a folder 5\na/b/c file 4 "x"', "a/b folder -", "a cleared\na/b gone"]:
            self.assertNoText(read_layer, text)
            self.assertNoText(read_tree, text)


class TestSteps(NotationChecks, unittest.TestCase):

    def test_steps(self):
        for step, text in [
                (("write", AB, "x", 4), 'write a/b 4 "x"'), (("write", A, ("arg", "u"), 0), "write a 0 $u"), (("folder", A, 7), "folder a 7"),
                (("link", A, "x y"), 'link a "x y"'), (("link", A, ("arg", "abcdefgh")), "link a $abcdefgh"), (("delete", AB), "delete a/b"),
                (("clear", ("a", "b", "c", "d")), "clear a/b/c/d"), (("copy", "src", (), ()), "copy src / /"),
                (("copy", "src", (), A), "copy src / a"), (("copy", "src", AB, ()), "copy src a/b /"), (("copy", "src", A, AB), "copy src a a/b"),
                (("rights", A, 6), "rights a 6"), (("run", "cc", (), A), "run cc - a"), (("run", "cc", (("text", ""),), A), 'run cc "" a'),
                (("run", "cc", (("path", AB), ("arg", "u"), ("text", "x, y")), A), 'run cc a/b,$u,"x, y" a'),
                (("run", "run", (("text", "-"), ("path", ("run",)), ("text", "$u")), ("run",)), 'run run "-",run,"$u" run')]:
            self.check("step", step, text)
        for step in STEPS:
            self.check("step", step, step_of(step))

    def test_many_steps(self):
        maker = Maker(107)
        for _ in range(400):
            step = maker.step(["src", "in"])
            self.check("step", step, step_of(step))

    def test_four_names_and_five(self):
        four, five = "a/b/c/d", "a/b/c/d/e"
        for text in ['write {} 4 "x"', "folder {} 4", "link {} $u", "delete {}", "clear {}", "copy src {} a", "copy src a {}", "rights {} 4",
                     "run cc {} a", "run cc - {}"]:
            read_step(text.format(four))
            self.assertNoText(read_step, text.format(five))
            self.assertNoText(read_step, text.format("/".join("a" * 21)))
            if "copy" not in text:
                self.assertNoText(read_step, text.format("/"))

    def test_reads(self):
        three = 'run cc a,$b,"c" d'
        self.assertEqual(read_step(three)[2], (("path", A), ("arg", "b"), ("text", "c")))
        for reads in ["", "a,", ",a", "a,,b", "a,b,c,d", "-,-", "a,-", "-a", "a b", "$", "$,a", '"', "$A", "a;b", "a, b", "$u$v", "/", "a/",
                      '"x""y"', "()", "(a)", "none", "$ u", "- ", "a,b,c,"]:
            told = f"run cc {reads} d"
            if reads == "none":
                self.assertEqual(read_step(told)[2], (("path", ("none",)),))
            else:
                self.assertNoText(read_step, told)

    def test_what_is_no_step(self):
        for text in ["", " ", "delete", "delete ", "delete  a", " delete a", "delete a ", "delete a b", "Delete a", "delete A", "delete a1",
                     "remove a", "delete /a", "delete a/", "delete a//b", "delete abcdefghi", "delete a\n", "\ndelete a", "delete a\ndelete b",
                     "delete\na", 'write a "x" 4', 'write a 4 "x', "write a 4 x", "write a 4 -", "write a - \"x\"", 'write a 4 "' + "x" * 21 + '"',
                     'write a 4 zip("x")', "write a 4 $", "write a 4 $u v", 'write a 4 "a"b"', 'write a 4 "a\\"', 'write a 4 "\\x"',
                     'write a 4 "\\N"', 'write a 4 "\n"', "write a 4 'x'", "folder a -", "rights a -", "opaque a 5", "gone a", "link a x",
                     'link a 4 "x"', "copy src a", "copy / a b", "copy src a b c", "copy $u a b", "copy - a b", "run cc a", "run - - a",
                     "run cc - /", "run cc", 'run "cc" - a', "stage last -", "write a 4 \"x\"\t", "delete\ta", "delete a\r"]:
            with self.subTest(text=text):
                self.assertNoText(read_step, text)
                if "\ndelete" not in text:
                    self.assertNoText(read_recipe, "stage last -\n" + text)


class TestRecipes(NotationChecks, unittest.TestCase):

    def test_recipes(self):
        self.check("recipe", Recipe([("last", None, [])]), "stage last -")
        self.check("recipe", Recipe([("stage", "src", [("delete", ("stage",))])]), "stage stage src\ndelete stage")
        recipe = Recipe([("one", None, [("copy", "src", (), ()), ("link", A, "x\ny")]), ("two", "one", []),
                         ("three", "base", [("run", "cc", (("arg", "u"), ("path", AB)), B)])])
        self.check("recipe", recipe, 'stage one -\ncopy src / /\nlink a "x\\ny"\nstage two one\nstage three base\nrun cc $u,a/b b')

    def test_many_recipes(self):
        for recipe in some_recipes():
            self.check("recipe", recipe, recipe_of(recipe))

    def test_as_many_as_there_may_be(self):
        steps = [("run", "cc", (("text", "x" * 20),) * 3, tuple("abcd"))] * 4 + [("link", A, "\\" * 20)] * 4
        recipe = Recipe([("one", None, steps), ("two", "one", steps[4:] * 2), ("three", "two", steps[4:] * 2)])
        self.check("recipe", recipe, recipe_of(recipe))
        text = recipe_of(recipe)
        # A step, a run or a stage more.
        for more in ["delete a", "run cc - a", "stage four -"]:
            self.assertNoText(read_recipe, text + "\n" + more)
        self.assertNoText(read_recipe, text.replace("stage two", "run cc - a\nstage two"))
        self.assertNoText(read_recipe, "stage last -\n" + "\n".join(["run cc - a"] * 5))
        self.assertNoText(read_recipe, "stage last -" + "\ndelete a" * 9)
        read_recipe("stage last -" + "\ndelete a" * 8)

    def test_what_is_no_recipe(self):
        good = "stage one src\ndelete a\nstage two one"
        read_recipe(good)
        for text in ["", "\n", good + "\n", "\n" + good, good + " ", " " + good, good.replace("\n", "\n\n", 1), "delete a", "delete a\n" + good,
                     "stage one", "stage one ", "stage - one", "stage one - ", "stage one  -", "stage One -", "stage one $u", 'stage one "x"',
                     "stage one /", "stage one a/b", "stage one - -", "stage abcdefghi -", "stage one abcdefghi", "Stage one -", "stages one -",
                     # Names that are those of the stage or of a later one, stages that are called the same.
                     "stage one one", "stage one two\nstage two -", "stage one -\nstage one -", "stage one -\ncopy one / /",
                     "stage one -\ncopy two / /\nstage two -", "stage one -\ndelete", "stage one -\na folder 5", "stage one -\r\ndelete a",
                     good.replace("\n", "\\n"), good.replace("\n", " ")]:
            with self.subTest(text=text):
                self.assertNoText(read_recipe, text)
        self.assertEqual(read_recipe("stage one three\nstage two one").start("one"), "three")


class TestNoText(NotationChecks, unittest.TestCase):

    def test_values_that_are_no_texts(self):
        things = [*any_values(), Tree([(A, FILE)]), Layer([(A, FILE)]), ("delete", A), Recipe([("last", None, [])]), b"", b"delete a",
                  ["delete a"], ("delete a",), {"delete a": 1}, Odd(), deep(list), deep(tuple), ["a folder 5"] * 5000, [""], None]
        for thing in things:
            if isinstance(thing, str) and thing == "":
                continue
            with self.subTest(thing=thing):
                for read in READS:
                    self.assertNoText(read, thing)
        self.assertNoText(read_step, "")
        self.assertNoText(read_recipe, "")

    def test_long_texts(self):
        for text in ["a" * 100000, "(" * 100000, 'a file 4 ' + "a(" * 100000, '"' * 100000, "\\" * 99999, "\n" * 20000, " " * 100000,
                     "a/" * 50000 + "a gone", 'a link "' + "x" * 100000 + '"', "a file 4 zip(" + ",".join('"x"' for _ in range(20000)) + ")",
                     "a folder 5\n" * 5000, 'write a 4 "' + "\\n" * 50000 + '"', "run cc " + ",".join("a" * 20000) + " b", "-" * 100000,
                     "stage one -\n" * 5000, "stage one -" + "\ndelete a" * 5000, "a file " + "4" * 100000 + ' "x"']:
            for read in READS:
                self.assertNoText(read, text)

    def test_rows_spoilt(self):
        good = 'a folder 5\na/a file 4 "x"\nb link "y"'
        read_tree(good)
        read_layer(good)
        one, two, three = good.split("\n")
        for text in ["\n".join(lines) for lines in [
                [two, one, three], [one, three, two], [three, one, two], [one, one, two], [one, two, two], [one, two, three, three],
                [one, two, three, one], [one, "", three], ["", one], [one, ""], [one + " ", two], [" " + one], [one, two.replace(" ", "  ", 1)],
                [two, three], [one, two, 'a/a link "x"'], [one.replace("5", "05")], [one.replace("5", "8")], [one.replace("5", "-5")],
                [one.replace("folder", "Folder")], [one.replace("folder", "tree")], [one.replace("a ", "A ")], [one.replace("a ", "/ ")],
                [one.replace("a ", " ")], ["folder 5"], ["a"], ["a "], ["a folder"], ["a folder "], ["a folder 5 5"], ["a file 4"],
                ['a file "x" 4'], ['a file 4 "x" '], ['a file 4 "x""'], ["a file 4 x"], ["a file 4 -"], ["a file 4 zip"], ["a file 4 zip("],
                ["a file 4 zip)"], ['a file 4 zip("x"'], ['a file 4 zip("x",)'], ['a file 4 zip(,"x")'], ['a file 4 zip("x","x","x","x")'],
                ['a file 4 zip("x" ,"y")'], ['a file 4 zip("x", "y")'], ["a file 4 zip (-)"], ["a file 4 Zip(-)"], ["a file 4 (-)"],
                ["a file 4 zip(--)"], ["a file 4 zip(-)-"], ["a file 4 zip[-]"], ["a file 4 abcdefghi()"], ['a file 4 "' + "x" * 21 + '"'],
                ['a link "' + "\\n" * 21 + '"'], ['a file - "x"'], ["a link x"], ["a link zip()"], ['a link 4 "x"'], ["a link -"], ["a link $u"],
                ["a gone -"], ["a gone "], ["a gone 5"], ["a cleared "], ["a opaque"], ["a keep"], ["/ folder 5"], ["/a folder 5"],
                ["a/ folder 5"], ["a//b gone"], ["a b gone"], ["a.b gone"], ["abcdefghi gone"], ["a\\n gone"], ['"a" gone']]]:
            with self.subTest(text=text):
                self.assertNoText(read_tree, text)
                self.assertNoText(read_layer, text)

    def test_texts_spoilt_by_one_sign(self):
        signs = ['"', "\\", "\n", " ", "/", ",", "(", ")", "-", "$", "a", "n", "0", "7", "8"]
        for text in ['a folder 5\na/a file 4 zip("x\\n",-,a())\nb link "\\\\\\""', 'a file 0 ""', "", "a file 4 zip()"]:
            self.check_near("tree", text, signs)
            self.check_near("layer", text, signs)
        self.check_near("layer", "a opaque -\na/b folder 5\nb folder -\nb/c cleared\nc gone", signs)
        for text in ['write a/b 4 "x\\n"', 'run cc a/b,$u,"x" c', "run cc - a", "copy src / a", "link a $u", "clear a", "rights a 6"]:
            self.check_near("step", text, signs)
        self.check_near("recipe", 'stage one -\ncopy src / /\nlink a "x"\nstage two one\ndelete a', signs)

    def test_texts_of_other_things(self):
        texts = {"tree": "a folder 5\na/b link \"x\"", "layer": "a opaque -\nb gone", "step": "delete a", "recipe": "stage last -\ndelete a"}
        for kind, text in texts.items():
            for other, (_, read) in SHOWS.items():
                if other == kind or (kind, other) == ("tree", "layer"):
                    read(text)
                else:
                    self.assertNoText(read, text)

    def test_one_text_for_each_thing(self):
        for kind, things in [("tree", some_trees()), ("layer", small_layers()), ("recipe", some_recipes()), ("step", STEPS)]:
            texts = {}
            for thing in things:
                texts.setdefault(SHOWS[kind][0](thing), []).append(thing)
            for some in texts.values():
                self.assertTrue(all(thing == some[0] for thing in some))


if __name__ == "__main__":
    unittest.main()
