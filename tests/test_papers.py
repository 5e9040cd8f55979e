"""[65]: papers that show that two recipes always make equal trees."""

import unittest

from recipelayers.alike import compare, is_alike, relevant
from recipelayers.asking import value
from recipelayers.errors import TooMany
from recipelayers.recipes import Recipe
from recipe_samples import ANSWERS, Maker
from samples import A, AA, AB, B, Checks, Odd, any_values, deep



def last(*steps, start="base"):
    return Recipe([("last", start, list(steps))])


COPY, WRITE = ("copy", "src", A, B), ("write", ("c",), ("arg", "u"), 1)
ONE, OTHER = last(COPY, WRITE), last(WRITE, COPY, COPY)
PAPER = compare(ONE, OTHER)[1]


def leaves_of(one, other, path, question):
    """Complete leaves at a path, which ask what question returns for two recipes and a dict of answers, while it does."""
    def from_here(leaf):
        answers = {(name, asked): answer for name, asked, answer in leaf}
        asked = question(one, other, path, answers)
        if asked is None:
            return [(leaf, value(one, path, answers)[1])]
        return [row for answer in ANSWERS for row in from_here([*leaf, (*asked, answer)])]

    return from_here([])


def paper_of(one, other, question):
    return [(path, leaves_of(one, other, path, question)) for path in relevant(one, other)]


def first_open(recipes, path, answers):
    for recipe in recipes:
        told = value(recipe, path, answers)
        if told[0] == "ask":
            return told[1:]
    return None


def usual(one, other, path, answers):
    return first_open([one, other], path, answers)


def turned(one, other, path, answers):
    """The other one is asked first."""
    return first_open([other, one], path, answers)


def further(one, other, path, answers):
    """Something that neither needs is asked first, of an input that neither tells."""
    for asked in [("zz", ("q",)), ("last", ("q",))]:
        if asked not in answers:
            return asked
    return first_open([one, other], path, answers)


def needless(one, other, path, answers):
    """What is asked at last is needed no more; beneath a folder one more is asked."""
    asked = first_open([one, other], path, answers)
    if asked is not None:
        return asked
    for (name, told), answer in answers.items():
        if answer == "folder" and (name, (*told, "new")) not in answers and len(told) == 1:
            return (name, (*told, "new"))
    return None


def with_paths(at, row):
    return [*PAPER[:at], row, *PAPER[at + 1:]]


class TestRightPapers(Checks, unittest.TestCase):

    def test_what_compare_returns(self):
        for first, second in [(ONE, OTHER), (OTHER, ONE)]:
            self.assertTruth(True, is_alike(first, second, PAPER))
            self.assertTruth(True, is_alike(first, second, compare(first, second)[1]))
        self.assertTruth(True, is_alike(last(), last(), compare(last(), last())[1]))

    def test_many_recipes(self):
        maker = Maker(66)
        found = 0
        for _ in range(400):
            one = maker.recipe(2, stages=2)
            other = maker.changed(one)
            try:
                told = compare(one, other, limit=300)
            except TooMany:
                continue
            if told[0] == "alike":
                found += 1
                self.assertTruth(True, is_alike(one, other, told[1]))
                self.assertTruth(True, is_alike(other, one, told[1]))
            else:
                self.assertTruth(False, is_alike(one, other, paper_of(one, other, usual)))
        self.assertGreater(found, 100)

    def test_another_order_and_further_questions(self):
        maker = Maker(67)
        pairs = [(ONE, OTHER), (last(("copy", "x", A, A), ("copy", "y", B, B)), last(("copy", "y", B, B), ("copy", "x", A, A)))]
        while len(pairs) < 25:
            one = maker.recipe(2, stages=1)
            other = maker.changed(one)
            if len(relevant(one, other)) < 12 and compare(one, other)[0] == "alike":
                pairs.append((one, other))
        for one, other in pairs:
            for question in [usual, turned, further, needless]:
                paper = paper_of(one, other, question)
                self.assertTruth(True, is_alike(one, other, paper))
                self.assertTruth(True, is_alike(other, one, paper))

    def test_two_inputs_in_each_order(self):
        # The questions of a leaf may stand in any order in which those above come first.
        one = last(("run", "cc", (("path", AB), ("path", B)), A))
        for order in [[("base", A), ("base", AB), ("base", B)], [("base", A), ("base", B), ("base", AB)],
                      [("base", B), ("base", A), ("base", AB)]]:
            def asked(first, second, path, answers):
                for name, told in order:
                    if (name, told) not in answers and (len(told) == 1 or answers.get((name, told[:-1])) == "folder"):
                        return (name, told)
                return first_open([first, second], path, answers)

            self.assertTruth(True, is_alike(one, one, paper_of(one, one, asked)))
        wrong = [("base", AB), ("base", A), ("base", B)]

        def from_beneath(first, second, path, answers):
            return next((question for question in wrong if question not in answers), None) or first_open(
                [first, second], path, answers)

        self.assertTruth(False, is_alike(one, one, paper_of(one, one, from_beneath)))

    def test_the_paper_stays(self):
        paper = paper_of(ONE, OTHER, usual)
        self.assertEqual(paper, PAPER)
        is_alike(ONE, OTHER, paper)
        self.assertEqual([paper, ONE, OTHER], [PAPER, last(COPY, WRITE), last(WRITE, COPY, COPY)])


class TestSpoiltPapers(Checks, unittest.TestCase):

    def wrong(self, paper):
        self.assertTruth(False, is_alike(ONE, OTHER, paper))
        self.assertTruth(False, is_alike(OTHER, ONE, paper))

    def test_the_paper_of_others(self):
        self.assertTruth(False, is_alike(ONE, last(COPY), PAPER))
        self.assertTruth(False, is_alike(last(COPY), ONE, PAPER))
        for other in [last(COPY, ("write", ("c",), ("arg", "v"), 1)), last(COPY, ("write", ("c",), "u", 1)),
                      last(("copy", "src", A, B), ("write", ("c",), ("arg", "u"), 2)), last(COPY, WRITE, start="src")]:
            self.assertTruth(False, is_alike(ONE, other, PAPER))
            self.assertTruth(False, is_alike(other, ONE, PAPER))
            self.assertTruth(False, is_alike(other, other, PAPER))

    def test_paths(self):
        for at, (path, leaves) in enumerate(PAPER):
            self.wrong(PAPER[:at] + PAPER[at + 1:])
            self.wrong(PAPER[:at] + [PAPER[at]] + PAPER[at:])
            if at:
                self.wrong([*PAPER[:at - 1], PAPER[at], PAPER[at - 1], *PAPER[at + 1:]])
                self.wrong([*PAPER[:at - 1], (PAPER[at - 1][0], leaves), (path, PAPER[at - 1][1]), *PAPER[at + 1:]])
            for other in [("z",), (), (*path, "z"), list(path), path[0], None, Odd(), ("a", Odd())]:
                self.wrong(with_paths(at, (other, leaves)))
            for row in [(path,), [path, leaves], (path, leaves, None), (leaves, path), (path, tuple(leaves)), (path, []),
                        (path, None), (path, leaves[0]), (path, {}), path, leaves, (path, [leaves]), (path, Odd())]:
                self.wrong(with_paths(at, row))
        for paper in [[], PAPER[:1], PAPER[::-1], PAPER + PAPER, tuple(PAPER), dict(), iter(PAPER), [PAPER], None]:
            self.wrong(paper)

    def test_leaves(self):
        for at, (path, leaves) in enumerate(PAPER):
            for place in range(len(leaves)):
                before, here, after = leaves[:place], leaves[place], leaves[place + 1:]
                self.wrong(with_paths(at, (path, before + after)))
                self.wrong(with_paths(at, (path, [*before, here, here, *after])))
                if place:
                    self.wrong(with_paths(at, (path, [*before[:-1], here, before[-1], *after])))
                leaf, node = here
                for row in [[leaf, node], (leaf,), (leaf, node, None), (node, leaf), (tuple(leaf), node), (None, node), leaf,
                            ((), node), (dict(), node), (Odd(), node), node, None, (leaf, Odd())]:
                    self.wrong(with_paths(at, (path, [*before, row, *after])))

    def test_answers(self):
        for at, (path, leaves) in enumerate(PAPER):
            for place, (leaf, node) in enumerate(leaves):
                for many, (name, asked, answer) in enumerate(leaf):
                    rows = [(name, asked, other) for other in ANSWERS if other != answer]
                    rows += [(name, asked), (name, asked, answer, None), [name, asked, answer], (asked, name, answer),
                             ("zz", asked, answer), (name, ("z",), answer), (name, (), answer), (name, list(asked), answer),
                             (name, asked, "None"), (name, asked, None), (name, asked, "gone"), (name, asked, Odd()),
                             (Odd(), asked, answer), (name, Odd(), answer), (name, "".join(asked), answer), None, (),
                             (name.upper(), asked, answer), ("", asked, answer), (name, asked, True),
                             (name, (*asked, "Q"), answer)]
                    for row in rows:
                        other = [*leaf[:many], row, *leaf[many + 1:]]
                        self.wrong(with_paths(at, (path, [*leaves[:place], (other, node), *leaves[place + 1:]])))
                    for other in [leaf[:many] + leaf[many + 1:], leaf[:many + 1] + leaf[many:], [*leaf, ("zz", A, "none")],
                                  leaf[::-1] if len(leaf) > 1 else None]:
                        self.wrong(with_paths(at, (path, [*leaves[:place], (other, node), *leaves[place + 1:]])))

    def test_nodes(self):
        others = [None, ("file", "x", 1), ("folder", 5), ("link", "x"), ("file", ("arg", "u"), True), "none", [], (), Odd(),
                  ("file", ("arg", "u"), 2), ("file", ("arg", "v"), 1), ["file", ("arg", "u"), 1], ("file", ["arg", "u"], 1),
                  ("link", ("of", "src", A)), ("folder", ("of", "src", A)), ("folder", Odd()), ("file", Odd(), 1), deep(tuple)]
        right = 0
        for at, (path, leaves) in enumerate(PAPER):
            for place, (leaf, node) in enumerate(leaves):
                for other in others:
                    paper = with_paths(at, (path, [*leaves[:place], (leaf, other), *leaves[place + 1:]]))
                    # Two nodes are the same only if they read the same: True is not 1, a list not a tuple.
                    right += repr(other) == repr(node)
                    self.assertTruth(repr(other) == repr(node), is_alike(ONE, OTHER, paper))
        self.assertGreater(right, 3)

    def test_truths_for_numbers(self):
        one = last(("folder", A, 1), ("write", B, "x", 0), start=None)
        paper = compare(one, one)[1]
        self.assertEqual(paper[0], (A, [([], ("folder", 1))]))
        self.assertTruth(False, is_alike(one, one, [(A, [([], ("folder", True))]), *paper[1:]]))
        for at, (path, leaves) in enumerate(paper):
            if path == B:
                other = [*paper[:at], (B, [([], ("file", "x", False))]), *paper[at + 1:]]
                self.assertTruth(False, is_alike(one, one, other))
        self.assertTruth(True, is_alike(one, one, paper))

    def test_not_complete(self):
        one = last(("delete", AA), start=None)
        paths = relevant(one, one)
        self.assertEqual(compare(one, one)[1], [(path, [([], None)]) for path in paths])

        def paper(leaves):
            return [(paths[0], leaves), *[(path, [([], None)]) for path in paths[1:]]]

        full = [([("x", A, answer)], None) for answer in ANSWERS]
        self.assertTruth(True, is_alike(one, one, paper([([], None)])))
        self.assertTruth(True, is_alike(one, one, paper(full)))
        two = [([("x", A, first), ("y", B, second)], None) for first in ANSWERS for second in ANSWERS]
        self.assertTruth(True, is_alike(one, one, paper(two)))
        # Behind unlike answers unlike questions may be asked, or none.
        mixed = [full[0], *[([("x", A, "file"), ("y", B, answer)], None) for answer in ANSWERS], full[2],
                 *[([("x", A, "folder"), ("x", AB, answer)], None) for answer in ANSWERS]]
        self.assertTruth(True, is_alike(one, one, paper(mixed)))
        wrong = [[], full[:3], full[1:], full[::-1], [full[0], full[2], full[1], full[3]], [full[0], full[0], *full[1:]],
                 [([], None), *full], [*full, ([], None)], [([], None), ([], None)], two[:-1], two[1:], full[:3] + two[12:-1],
                 [*full[:3], ([("y", A, "folder")], None)], [*full[:3], ([("x", B, "folder")], None)], [full[0]], two[::-1],
                 [([("x", A, answer), ("x", A, answer)], None) for answer in ANSWERS],
                 [([("x", A, first), ("x", A, second)], None) for first in ANSWERS for second in ANSWERS],
                 [([("x", (), answer)], None) for answer in ANSWERS],
                 [([("x", (), first), ("x", A, second)], None) for first in ANSWERS for second in ANSWERS],
                 [([("x", A, first), ("x", AA, second)], None) for first in ANSWERS for second in ANSWERS],
                 [([("x", AA, answer)], None) for answer in ANSWERS],
                 [*mixed[:5], *mixed[6:]], [two[0], *mixed[1:]], sorted(two, key=lambda row: row[0][1][2])]
        for leaves in wrong:
            with self.subTest(leaves=leaves):
                self.assertTruth(False, is_alike(one, one, paper(leaves)))

    def test_questions_that_are_missing(self):
        # A node is told only by answers: what is asked next is none.
        one = last(start="base")
        for node in [None, "base", A, ("base", A), ("ask", "base", A), ("link", "x"), "ask"]:
            self.assertTruth(False, is_alike(one, one, [(A, [([], node)])]))
            rows = [([("src", A, answer)], node) for answer in ANSWERS]
            self.assertTruth(False, is_alike(one, one, [(A, rows)]))

    def test_long_values(self):
        one = last(start=None)
        (path, leaves), = compare(one, one)[1]
        self.assertEqual([path, leaves], [A, [([], None)]])
        long = [("x", ("a",) * many, "folder") for many in range(1, 90)]
        for leaf in [long, [("x", A, "none")] * 5000, [("x", ("a",) * 15000, "none")], [("x" + "ab"[at % 2], A, "none")
                                                                                     for at in range(4000)]]:
            self.assertTruth(False, is_alike(one, one, [(A, [(leaf, None)])]))
            self.assertTruth(False, is_alike(one, one, [(A, [(leaf, None)] * 4)]))
        # One question behind the other: complete, however many there are.
        chain = []
        for many in range(40):
            start = [("x", ("a",) * length, "folder") for length in range(1, many + 1)]
            chain += [([*start, ("x", ("a",) * (many + 1), answer)], None) for answer in ["folder"] * (many == 39)]
        rows = [([*[("x", ("a",) * length, "folder") for length in range(1, many)], ("x", ("a",) * many, answer)], None)
                for many in range(1, 41) for answer in ANSWERS[:3]]
        # The answer "folder" goes on, so its leaves come behind those of the other answers.
        self.assertTruth(True, is_alike(one, one, [(A, rows + chain)]))
        self.assertTruth(False, is_alike(one, one, [(A, rows)]))
        self.assertTruth(False, is_alike(one, one, [(A, chain + rows)]))

    def test_any_value(self):
        one = last(start=None)
        for thing in [*any_values(), [], ()]:
            with self.subTest(thing=thing):
                for paper in [thing, [thing], [(thing, [([], None)])], [(A, thing)], [(A, [thing])], [(A, [(thing, None)])],
                              [(A, [([thing], None)])], [(A, [([(thing, A, "none")], None)])],
                              [(A, [([("x", thing, "none")], None)])], [(A, [([("x", A, thing)], None)])]]:
                    right = paper == [(A, [([], None)])] if repr(paper) == "[(('a',), [([], None)])]" else False
                    self.assertTruth(right, is_alike(one, one, paper))
                same = thing is None
                self.assertTruth(same, is_alike(one, one, [(A, [([], thing)])]))
                self.wrong(thing)


if __name__ == "__main__":
    unittest.main()
