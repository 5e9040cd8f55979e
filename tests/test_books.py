"""[100], [101], [3] and [4]: books."""

import unittest

from recipelayers.books import Book
from recipelayers.caches import Cache
from recipelayers.errors import LayerError, NoDeed, NoStage, NoStep, Nothing, Stopped, TooMany, Unlike, Wrong
from recipelayers.merges import merged
from recipelayers.recipes import Recipe
from recipelayers.runs import Run
from recipelayers.trees import Tree
from recipe_samples import STEPS, Maker
from samples import A, AA, AB, B, FILE, SEVEN, Checks, Odd, any_values, check_example, deep

EXAMPLE = """
>>> from recipelayers.books import Book
>>> from recipelayers.recipes import Recipe
>>> book = Book(Recipe([("app", None, [("write", ("a",), "one", 5)])]))
>>> [book.do(("put", 1, ("delete", ("a",)))), book.do(("lose", 0)), book.recipe().steps("app")]
[None, ('write', ('a',), 'one', 5), [('delete', ('a',))]]
>>> with book.trial() as recipe:
...     undone = book.back()
>>> [undone, len(book)]
[('lose', 0), 2]
"""

DELETE, LINK, WRITE, CLEAR = ("delete", A), ("link", B, "x"), ("write", AA, "x", 4), ("clear", B)
RUN = ("run", "cc", (("path", AA), ("arg", "u")), B)
EARLIER = ("by", "src", [("rights", A, 6)])
INPUTS = {"src": Tree([(A, SEVEN), (AA, FILE)])}


def made(*steps, before=(EARLIER,), name="last", start="by"):
    return Recipe([*before, (name, start, list(steps))])


def book_of(*steps):
    return Book(made(*steps))


def steps_of(book):
    return book.recipe().steps("last")


def model_done(steps, deed):
    """The tuple (steps behind a deed, step that it takes out), in the words of [100]; the errors alone are not told."""
    steps, (kind, at) = list(steps), deed[:2]
    if kind == "put":
        steps.insert(at, deed[2])
        return steps, None
    taken = steps[at]
    steps[at:at + 1] = [] if kind == "lose" else [deed[2]]
    return steps, taken


def standing(book):
    """All that can be seen of a book; what can be done again is seen on a branch."""
    branch, undone = book.branch(), []
    while True:
        try:
            undone.append(branch.again())
        except Nothing:
            break
    made_anew = book.branch().built(INPUTS, {})[1]
    return book.recipe(), book.log(), book.first(), len(book), undone, made_anew


class BookChecks(Checks):

    def assertRefused(self, error, field, worth, book, call, *arguments):
        """The call raises this error, and the book stays as it was."""
        before = standing(book)
        with self.assertRaises(LayerError) as caught:
            call(*arguments)
        self.assertIs(caught.exception.__class__, error)
        if field is not None:
            kept = getattr(caught.exception, field)
            self.assertEqual((kept.__class__, kept), (worth.__class__, worth))
        self.assertEqual(standing(book), before)


class TestDo(BookChecks, unittest.TestCase):

    def test_example(self):
        check_example(self, EXAMPLE)

    def test_a_new_book(self):
        recipe = made(DELETE, LINK)
        book = Book(recipe)
        self.assertEqual([book.recipe(), book.first(), book.log(), len(book)], [recipe, recipe, [], 0])

    def test_wrong_recipes(self):
        for thing in [*any_values(), made().stages(), [made()], Run(made(), {}, {}), Book(made()), Odd(), None]:
            with self.subTest(thing=thing):
                self.assertFails(Wrong, "place", 0, Book, thing)

    def test_each_deed_at_each_place(self):
        steps = [DELETE, LINK, WRITE]
        for many in range(4):
            for at in range(many + 1):
                deeds = [("put", at, step) for step in STEPS]
                if at < many:
                    deeds += [("lose", at), *[("change", at, step) for step in STEPS]]
                for deed in deeds:
                    book = book_of(*steps[:many])
                    wanted, taken = model_done(steps[:many], deed)
                    told = book.do(deed)
                    self.assertEqual([told, told.__class__], [taken, taken.__class__])
                    self.assertEqual([book.recipe(), book.log(), len(book)], [made(*wanted), [deed], 1])
                    self.assertEqual(book.first(), made(*steps[:many]))

    def test_places_beyond(self):
        for many, steps in enumerate([[], [DELETE], [DELETE, LINK, WRITE]]):
            many = len(steps)
            for at in [many, many + 1, 99, 10 ** 39]:
                book = book_of(*steps)
                book.do(("put", 0, CLEAR))
                book.back()
                self.assertRefused(NoStep, "at", at, book, book.do, ("lose", at))
                self.assertRefused(NoStep, "at", at, book, book.do, ("change", at, LINK))
                if at > many:
                    self.assertRefused(NoStep, "at", at, book, book.do, ("put", at, LINK))

    def test_eight_steps(self):
        book = book_of(*[("link", (name,), "x") for name in "abcdefg"])
        book.do(("put", 7, DELETE))
        for at in range(9):
            self.assertRefused(TooMany, "limit", 8, book, book.do, ("put", at, LINK))
            self.assertRefused(TooMany, "limit", 8, book, book.do, ("put", at, RUN))
        # A place beyond is told ahead of the number of steps.
        self.assertRefused(NoStep, "at", 9, book, book.do, ("put", 9, LINK))
        self.assertEqual([book.do(("change", 7, LINK)), book.do(("lose", 0)), book.do(("put", 7, CLEAR))],
                         [DELETE, ("link", A, "x"), None])

    def test_the_errors_of_recipes(self):
        # A source that is the name of the stage itself, then too many runs; those of the earlier stages count.
        own = ("copy", "last", A, B)
        book = Book(made(RUN, DELETE, before=[("by", "src", [RUN, RUN])]))
        for at in range(3):
            self.assertRefused(NoStage, "name", "last", book, book.do, ("put", at, own))
        for at in range(2):
            self.assertRefused(NoStage, "name", "last", book, book.do, ("change", at, own))
        self.assertIsNone(book.do(("put", 0, RUN)))
        self.assertRefused(TooMany, "limit", 4, book, book.do, ("put", 3, RUN))
        self.assertRefused(TooMany, "limit", 4, book, book.do, ("change", 2, RUN))
        self.assertRefused(NoStage, "name", "last", book, book.do, ("put", 0, own))
        self.assertEqual(book.do(("change", 1, RUN)), RUN)
        # A copy from an earlier stage or any other name may be put.
        self.assertIsNone(book.do(("put", 0, ("copy", "by", (), ()))))
        self.assertIsNone(book.do(("put", 0, ("copy", "abcdefgh", (), ()))))
        # Eight steps are told ahead of both.
        full = Book(made(*[LINK] * 4, *[RUN] * 4))
        for step in [own, RUN]:
            self.assertRefused(TooMany, "limit", 8, full, full.do, ("put", 0, step))
            self.assertRefused(NoStep, "at", 8, full, full.do, ("change", 8, step))
        self.assertRefused(NoStage, "name", "last", full, full.do, ("change", 0, own))
        self.assertRefused(TooMany, "limit", 4, full, full.do, ("change", 0, RUN))

    def test_only_the_last_stage_changes(self):
        book = Book(Recipe([EARLIER, ("next", "by", [LINK]), ("end", None, [])]))
        book.do(("put", 0, ("copy", "next", (), ())))
        self.assertEqual(book.recipe(), Recipe([EARLIER, ("next", "by", [LINK]), ("end", None, [("copy", "next", (), ())])]))

    def test_values_that_are_no_deeds(self):
        book = book_of(DELETE, LINK, WRITE)
        book.do(("put", 0, CLEAR))
        book.back()
        near = [("put", 0), ("put", 0, LINK, None), ("lose",), ("lose", 0, LINK), ("lose", 0, None), ("change", 0), ("change", LINK, 0),
                ("put", LINK, 0), ["put", 0, LINK], ["lose", 0], ("Put", 0, LINK), ("take", 0), ("lose", -1), ("put", -1, LINK),
                ("change", -1, LINK), ("lose", True), ("put", False, LINK), ("change", True, LINK), ("lose", None), ("lose", "0"),
                ("put", 0, None), ("put", 0, list(LINK)), ("put", 0, ("link", B)), ("put", 0, ("link", (), "x")), ("put", 0, [LINK]),
                ("put", 0, ("delete", ("a",) * 5)), ("change", 0, ("rights", A, 8)), ("change", 0, "delete a"), (b"lose", 0),
                ("lose", (0,)), ("lose", [0]), ("put", 0, ("run", "cc", [], B)), "lose 0", ("put", Odd(), LINK), (Odd(), 0), Odd(),
                ("lose", Odd()), ("put", 0, Odd()), ("put", 0, ("delete", Odd())), {"lose": 0}, (), [], ("lose", -10 ** 39),
                ("lose", deep(tuple)), ("put", 0, deep(list)), deep(tuple), ("put", 0, ("write", A, "x" * 21, 4)), ("lose", 0) * 5000,
                DELETE, LINK, ("put", 0, ("put", 0, LINK)), (("lose", 0),), [("lose", 0)]]
        for thing in [*near, *any_values()]:
            with self.subTest(thing=thing):
                self.assertRefused(NoDeed, None, None, book, book.do, thing)
                self.assertRefused(NoDeed, None, None, book, book.late, 0, thing)
        self.assertEqual(book.again(), ("put", 0, CLEAR))

    def test_a_hundred_deeds(self):
        book = book_of(LINK)
        for at in range(100):
            book.do(("change", 0, DELETE if at % 2 else LINK))
        self.assertEqual(len(book), 100)
        for deed in [("change", 0, CLEAR), ("lose", 0), ("put", 0, LINK), ("put", 9, LINK), ("put", 0, ("copy", "last", A, B))]:
            self.assertRefused(TooMany, "limit", 100, book, book.do, deed)
        self.assertRefused(NoDeed, None, None, book, book.do, ("lose", -1))
        self.assertRefused(NoDeed, None, None, book, book.do, None)
        # With one undone there are 99; with this done again there are 100.
        self.assertEqual(book.back(), ("change", 0, DELETE))
        self.assertEqual(book.again(), ("change", 0, DELETE))
        self.assertRefused(TooMany, "limit", 100, book, book.do, ("lose", 0))
        for _ in range(5):
            book.back()
        self.assertEqual(book.do(("change", 0, CLEAR)), LINK)
        self.assertEqual(len(book), 96)
        for _ in range(4):
            book.do(("change", 0, LINK))
        self.assertRefused(TooMany, "limit", 100, book, book.do, ("change", 0, LINK))
        for _ in range(100):
            book.back()
        self.assertEqual([len(book), book.recipe()], [0, book.first()])
        for _ in range(100):
            book.again()
        self.assertEqual([len(book), steps_of(book)], [100, [LINK]])


class TestBackAndAgain(BookChecks, unittest.TestCase):

    def test_to_both_ends(self):
        deeds = [("put", 0, LINK), ("put", 1, DELETE), ("change", 0, WRITE), ("lose", 1), ("put", 1, CLEAR)]
        book = book_of()
        recipes = [book.recipe()]
        self.assertRefused(Nothing, None, None, book, book.back)
        self.assertRefused(Nothing, None, None, book, book.again)
        for deed in deeds:
            book.do(deed)
            recipes.append(book.recipe())
        for _ in range(2):
            self.assertRefused(Nothing, None, None, book, book.again)
            for at in reversed(range(5)):
                self.assertEqual([book.back(), book.recipe(), book.log(), len(book)], [deeds[at], recipes[at], deeds[:at], at])
            self.assertRefused(Nothing, None, None, book, book.back)
            for at in range(5):
                self.assertEqual([book.again(), book.recipe(), book.log()], [deeds[at], recipes[at + 1], deeds[:at + 1]])
        self.assertEqual(book.first(), recipes[0])

    def test_a_deed_behind_a_back(self):
        for deed in [("put", 1, CLEAR), ("put", 1, DELETE)]:
            book = book_of()
            for some in [("put", 0, LINK), ("put", 1, DELETE), ("put", 2, WRITE)]:
                book.do(some)
            self.assertEqual([book.back(), book.back()], [("put", 2, WRITE), ("put", 1, DELETE)])
            # Even an equal one; what is refused changes nothing.
            self.assertRefused(NoStep, "at", 5, book, book.do, ("lose", 5))
            book.do(deed)
            self.assertRefused(Nothing, None, None, book, book.again)
            self.assertEqual(book.log(), [("put", 0, LINK), deed])

    def test_again_part_of_the_way(self):
        book = book_of()
        for at in range(4):
            book.do(("put", at, ("link", ("abcd"[at],), "x")))
        for _ in range(4):
            book.back()
        self.assertEqual([book.again()[1], book.again()[1], book.back()[1], book.again()[1], book.again()[1]], [0, 1, 1, 1, 2])
        self.assertEqual(len(book), 3)


class TestLateAndDrop(BookChecks, unittest.TestCase):

    def setUp(self):
        self.deeds = [("put", 0, LINK), ("put", 1, DELETE), ("change", 0, WRITE), ("put", 0, CLEAR)]

    def book(self, undone=0):
        book = book_of()
        for deed in self.deeds:
            book.do(deed)
        for _ in range(undone):
            book.do(("lose", 0))
        for _ in range(undone):
            book.back()
        return book

    def replayed(self, deeds):
        book = book_of()
        for deed in deeds:
            book.do(deed)
        return book

    def test_late_at_each_place(self):
        for at in range(5):
            for deed in [("put", 0, RUN), ("put", 0, ("link", AB, "y"))]:
                book = self.book(undone=2)
                log = [*self.deeds[:at], deed, *self.deeds[at:]]
                self.assertIsNone(book.late(at, deed))
                self.assertEqual([book.log(), book.recipe(), len(book)], [log, self.replayed(log).recipe(), 5])
                self.assertRefused(Nothing, None, None, book, book.again)
                # All that is in the log can be undone, and done again then.
                self.assertEqual([book.back() for _ in range(5)], log[::-1])
                self.assertEqual(book.recipe(), book.first())
                self.assertEqual([book.again() for _ in range(5)], log)

    def test_drop_at_each_place(self):
        book = book_of(LINK, DELETE, WRITE)
        deeds = [("put", 0, CLEAR), ("change", 1, RUN), ("put", 2, LINK), ("lose", 0)]
        for deed in deeds:
            book.do(deed)
        for at in range(4):
            branch, log = book.branch(), deeds[:at] + deeds[at + 1:]
            branch.do(("lose", 0))
            branch.back()
            self.assertIsNone(branch.drop(at))
            other = Book(book.first())
            for deed in log:
                other.do(deed)
            self.assertEqual([branch.log(), branch.recipe(), branch == other], [log, other.recipe(), True])
            self.assertRefused(Nothing, None, None, branch, branch.again)
        while len(book) > 0:
            book.drop(len(book) - 1)
        self.assertEqual(book.recipe(), book.first())

    def test_places_beyond(self):
        for book in [self.book(), self.book(undone=1), book_of()]:
            many = len(book)
            for at in [many + 1, -1, 10 ** 39, -10 ** 39, None, "0", True, False, (0,), [0], {}, Odd(), b"0", deep(list), deep(tuple)]:
                for deed in [("put", 0, LINK), None, ("lose", 99), deep(list)]:
                    self.assertRefused(Wrong, "place", 0, book, book.late, at, deed)
                self.assertRefused(Wrong, "place", 0, book, book.drop, at)
            self.assertRefused(Wrong, "place", 0, book, book.drop, many)

    def test_any_value_for_a_place(self):
        book = self.book(undone=1)
        for thing in any_values():
            if thing.__class__ is not int or not 0 <= thing <= 4:
                with self.subTest(thing=thing):
                    self.assertRefused(Wrong, "place", 0, book, book.late, thing, thing)
                    self.assertRefused(Wrong, "place", 0, book, book.drop, thing)

    def test_the_first_deed_that_stops(self):
        # The deed itself, or one behind it; the index is that in the new log.
        book = self.book(undone=1)
        for at, deed, stopped in [(0, ("lose", 0), 0), (2, ("lose", 2), 2), (4, ("change", 3, LINK), 4), (2, ("lose", 1), None),
                                  (1, ("lose", 0), 2), (2, ("lose", 0), None), (0, ("put", 1, LINK), 0),
                                  (3, ("put", 0, ("copy", "last", A, B)), 3)]:
            if stopped is None:
                book.branch().late(at, deed)
            else:
                self.assertRefused(Stopped, "at", stopped, book, book.late, at, deed)
        self.assertRefused(Stopped, "at", 0, book, book.drop, 0)
        twice = book_of()
        for deed in [("put", 0, LINK), ("put", 0, LINK), ("lose", 1), ("change", 0, DELETE)]:
            twice.do(deed)
        for at in [0, 1]:
            self.assertRefused(Stopped, "at", 1, twice, twice.drop, at)
        self.assertIsNone(twice.drop(2))
        self.assertIsNone(twice.drop(0))
        # What would be done from there on no longer stops: the log is this now.
        self.assertEqual([twice.log(), steps_of(twice)], [[("put", 0, LINK), ("change", 0, DELETE)], [DELETE]])

    def test_what_stops_by_the_number_of_steps_and_of_runs(self):
        book = book_of(*[("link", (name,), "x") for name in "abcdefg"])
        for deed in [("put", 0, DELETE), ("lose", 0), ("put", 3, WRITE)]:
            book.do(deed)
        self.assertRefused(Stopped, "at", 1, book, book.late, 0, ("put", 0, LINK))
        self.assertRefused(Stopped, "at", 1, book, book.drop, 1)
        self.assertIsNone(book.late(1, ("lose", 4)))
        runs = book_of(RUN, RUN)
        for deed in [("put", 0, RUN), ("put", 0, LINK), ("put", 0, RUN)]:
            runs.do(deed)
        self.assertRefused(Stopped, "at", 3, runs, runs.late, 1, ("put", 0, RUN))
        self.assertRefused(Stopped, "at", 3, runs, runs.late, 3, ("put", 0, RUN))
        self.assertIsNone(runs.late(1, ("lose", 2)))

    def test_a_hundred_deeds(self):
        book = book_of(LINK)
        for _ in range(99):
            book.do(("change", 0, LINK))
        book.late(50, ("change", 0, DELETE))
        self.assertEqual([len(book), book.log()[50], steps_of(book)], [100, ("change", 0, DELETE), [LINK]])
        for at in [0, 50, 100]:
            self.assertRefused(TooMany, "limit", 100, book, book.late, at, ("change", 0, LINK))
            self.assertRefused(TooMany, "limit", 100, book, book.late, at, ("lose", 99))
            self.assertRefused(NoDeed, None, None, book, book.late, at, ("lose", -1))
        self.assertRefused(Wrong, "place", 0, book, book.late, 101, ("lose", -1))
        self.assertRefused(Wrong, "place", 0, book, book.late, 101, ("change", 0, LINK))
        book.drop(99)
        # With some undone there is room: the deeds that are undone do not count.
        book.back()
        book.back()
        self.assertEqual(len(book), 97)
        for _ in range(3):
            book.late(0, ("change", 0, CLEAR))
        self.assertRefused(TooMany, "limit", 100, book, book.late, 0, ("change", 0, LINK))

    def test_many(self):
        maker = Maker(100)
        for _ in range(60):
            recipe = maker.recipe(2, stages=2)
            book, log, undone = Book(recipe), [], []
            for _ in range(25):
                log, undone = self.play(maker, book, recipe, log, undone)
                self.assertEqual([book.log(), len(book), book.first()], [log, len(log), recipe])
                self.assertEqual(book.recipe(), replay(recipe, log))
                self.assertEqual(standing(book)[4], undone[::-1])

    def play(self, maker, book, recipe, log, undone):
        """Do something with a book; the log and what is undone behind it, by the words of [100]."""
        kind = maker.random.choice(["do", "do", "do", "back", "again", "late", "drop"])
        at = maker.random.randint(0, 4)
        deed = maker.random.choice([("put", at, maker.step(["in", "sa", "sb"])), ("lose", at), ("change", at, maker.step(["in"]))])
        place = maker.random.randint(0, len(log) + 1)
        calls = {"do": lambda: book.do(deed), "back": book.back, "again": book.again, "late": lambda: book.late(place, deed),
                 "drop": lambda: book.drop(place)}
        wanted = {"do": ([*log, deed], []), "back": (log[:-1], undone + log[-1:]), "again": (log + undone[-1:], undone[:-1]),
                  "late": ([*log[:place], deed, *log[place:]], []), "drop": (log[:place] + log[place + 1:], [])}[kind]
        stopped = replay(recipe, wanted[0]).__class__ is int
        try:
            calls[kind]()
        except (NoStep, NoStage, TooMany, Stopped) as error:
            self.assertTrue(stopped)
            if error.__class__ is Stopped:
                self.assertEqual(error.at, replay(recipe, wanted[0]))
            return log, undone
        except (Nothing, Wrong):
            self.assertTrue(kind == "again" and not undone or kind == "back" and not log
                            or kind == "late" and place > len(log) or kind == "drop" and place >= len(log))
            return log, undone
        self.assertFalse(stopped)
        return wanted


def replay(recipe, log):
    """The Recipe behind the deeds of a log, or the index of the first one that cannot be done."""
    for index, deed in enumerate(log):
        name, _, steps = recipe.stages()[-1]
        if deed[1] > len(steps) or (deed[1] == len(steps) and deed[0] != "put") or (deed[0] == "put" and len(steps) == 8):
            return index
        try:
            recipe = recipe.with_steps(name, model_done(steps, deed)[0])
        except (NoStage, TooMany):
            return index
    return recipe


class TestBranches(BookChecks, unittest.TestCase):

    def test_a_branch_goes_on_independently(self):
        book = book_of(LINK)
        book.do(("put", 0, DELETE))
        book.do(("put", 0, WRITE))
        book.back()
        branch = book.branch()
        self.assertIs(branch.__class__, Book)
        self.assertEqual([branch == book, standing(branch)], [True, standing(book)])
        before = standing(book)
        branch.do(("lose", 0))
        branch.late(0, ("put", 0, CLEAR))
        self.assertEqual(standing(book), before)
        self.assertEqual(book.again(), ("put", 0, WRITE))
        other = book.branch()
        book.drop(1)
        book.back()
        self.assertEqual([other.log(), other.first()], [[("put", 0, DELETE), ("put", 0, WRITE)], made(LINK)])
        self.assertEqual([book.log(), branch.log()], [[], [("put", 0, CLEAR), ("put", 0, DELETE), ("lose", 0)]])

    def test_caches_of_their_own(self):
        book = book_of(LINK)
        book.built(INPUTS, {})
        branch = book.branch()
        # The cache comes along, and each goes on with its own.
        self.assertEqual(branch.built(INPUTS, {})[1], [])
        branch.do(("put", 0, DELETE))
        self.assertEqual(branch.built(INPUTS, {})[1], [("last", 0)])
        book.do(("put", 0, DELETE))
        self.assertEqual(book.built(INPUTS, {})[1], [("last", 0)])
        book.do(("put", 0, CLEAR))
        book.built(INPUTS, {})
        branch.do(("put", 0, CLEAR))
        self.assertEqual(branch.built(INPUTS, {})[1], [("last", 0)])

    def test_a_branch_of_a_branch_of_an_empty_book(self):
        book = book_of()
        branch = book.branch().branch()
        branch.do(("put", 0, LINK))
        self.assertEqual([book.log(), branch.log()], [[], [("put", 0, LINK)]])


class TestEqualBooks(BookChecks, unittest.TestCase):

    def test_equal_books(self):
        one, other = book_of(LINK), book_of(LINK)
        for deed in [("put", 0, DELETE), ("lose", 1)]:
            self.assertTruth(True, one == other)
            one.do(deed)
            self.assertTruth(False, one == other)
            other.do(deed)
        self.assertTruth(True, one == other)
        self.assertTruth(False, one != other)
        # What is undone and the cache do not matter; the first recipes and the logs do.
        one.back()
        other.drop(1)
        one.built(INPUTS, {})
        self.assertTruth(True, one == other)
        three = book_of(DELETE, LINK)
        self.assertEqual(three.recipe(), one.recipe())
        self.assertTruth(False, three == one)
        four, five = book_of(LINK), book_of(LINK)
        for book, deeds in [(four, [("put", 1, CLEAR), ("put", 1, WRITE)]), (five, [("put", 1, WRITE), ("put", 2, CLEAR)])]:
            for deed in deeds:
                book.do(deed)
        self.assertEqual(four.recipe(), five.recipe())
        self.assertTruth(False, four == five)
        # Equal logs behind unlike first recipes.
        six, seven = book_of(LINK), book_of(LINK, LINK)
        self.assertTruth(False, six == seven)
        for book in [six, seven]:
            book.do(("lose", 0))
        self.assertEqual(six.log(), seven.log())
        self.assertTruth(False, six == seven)
        for thing in [one.recipe(), one.log(), None, 1, "Book", [one], Cache(), object()]:
            self.assertTruth(False, one == thing)
        self.assertFalse(book_of() == [])


class TestMerged(BookChecks, unittest.TestCase):

    def merge(self, common, ones, others):
        """Two Books with the same first deeds, and what merging them returns."""
        one = book_of(LINK)
        for deed in common:
            one.do(deed)
        base, other = one.recipe(), one.branch()
        for book, deeds in [(one, ones), (other, others)]:
            for deed in deeds:
                book.do(deed)
        before = [standing(one), standing(other)]
        try:
            told = one.merged(other)
            wanted = merged(base, one.recipe(), other.recipe())
        finally:
            self.assertEqual([standing(one), standing(other)], before)
        self.assertEqual(told, wanted)
        return told

    def test_a_common_beginning(self):
        common = [("put", 1, DELETE), ("change", 0, CLEAR)]
        end = [CLEAR, DELETE]
        one, other = ("put", 2, ("link", ("c",), "x")), ("put", 2, WRITE)
        self.assertEqual(self.merge(common, [one], [other]), ("merged", made(*end, one[2], other[2])))
        self.assertEqual(self.merge(common, [], []), ("merged", made(*end)))
        self.assertEqual(self.merge(common, [one, ("put", 3, RUN)], []), ("merged", made(*end, one[2], RUN)))
        self.assertEqual(self.merge(common, [], [other]), ("merged", made(*end, WRITE)))
        self.assertEqual(self.merge(common, [("put", 2, RUN)], [other])[0], "parted")
        # Equal deeds further on belong to the common beginning.
        self.assertEqual(self.merge([*common, one], [("put", 3, WRITE)], []), ("merged", made(*end, one[2], WRITE)))
        self.assertEqual(self.merge([*common, one], [], []), ("merged", made(*end, one[2])))

    def test_the_longest_common_beginning(self):
        # The logs were made apart; as far as their deeds are equal, they lead to the common recipe.
        one, other = book_of(LINK), book_of(LINK)
        for book, deeds in [(one, [("lose", 0), ("put", 0, DELETE), ("put", 1, WRITE)]),
                            (other, [("lose", 0), ("put", 0, DELETE), ("put", 1, CLEAR)])]:
            for deed in deeds:
                book.do(deed)
        self.assertEqual(one.merged(other), ("merged", made(DELETE, WRITE, CLEAR)))
        self.assertEqual(other.merged(one), ("merged", made(DELETE, CLEAR, WRITE)))
        self.assertEqual(one.merged(one.branch()), ("merged", made(DELETE, WRITE)))
        # Equal deeds behind unlike ones are not common.
        one.do(("put", 2, RUN))
        other.do(("put", 2, RUN))
        self.assertEqual(one.merged(other), merged(made(DELETE), made(DELETE, WRITE, RUN), made(DELETE, CLEAR, RUN)))

    def test_steps_that_do_not_continue_the_common_recipe(self):
        for deeds in [[("lose", 0)], [("put", 0, DELETE)], [("change", 0, DELETE)]]:
            with self.assertRaises(Unlike):
                self.merge([], deeds, [])
            with self.assertRaises(Unlike):
                self.merge([], [], deeds)
        # What is put and taken out again does not matter.
        self.assertEqual(self.merge([], [("put", 0, DELETE), ("lose", 0), ("put", 1, WRITE)], []), ("merged", made(LINK, WRITE)))

    def test_undone_deeds_do_not_count(self):
        one, other = book_of(LINK), book_of(LINK)
        one.do(("put", 1, WRITE))
        one.back()
        other.do(("put", 1, CLEAR))
        self.assertEqual(one.merged(other), ("merged", made(LINK, CLEAR)))

    def test_other_first_recipes(self):
        for first in [made(), made(LINK, LINK), made(LINK, start="src"), made(LINK, name="end")]:
            for one, other in [(book_of(LINK), Book(first)), (Book(first), book_of(LINK))]:
                self.assertRefused(Unlike, None, None, one, one.merged, other)
                self.assertRefused(Unlike, None, None, other, one.merged, other)
        # Although the recipes that stand are equal.
        one, other = book_of(LINK), book_of()
        other.do(("put", 0, LINK))
        self.assertEqual(one.recipe(), other.recipe())
        self.assertRefused(Unlike, None, None, one, one.merged, other)

    def test_too_many(self):
        links = [("link", ("x" + letter,), "x") for letter in "abcdefgh"]
        self.assertFails(TooMany, "limit", 8, self.merge, [], [("put", at + 1, links[at]) for at in range(4)],
                         [("put", at + 1, links[at + 4]) for at in range(4)])
        runs = [("put", 1, ("run", "cc", (), (letter,))) for letter in "cdefgh"]
        self.assertFails(TooMany, "limit", 4, self.merge, [], runs[:3], runs[3:5])
        one, other = book_of(LINK), book_of(LINK)
        one.do(("put", 1, WRITE))
        self.assertRefused(TooMany, "limit", 1, one, lambda: one.merged(other, limit=1))
        with self.assertRaises(TypeError):
            one.merged(other, 2000)
        # The usual limit is 2000.
        first = ("one", "base", [("copy", "src", (), ("x" + name,)) for name in "abcdefgh"])
        second = ("two", "one", [("copy", "one", (), ("y" + name,)) for name in "abcdefgh"])
        book = Book(Recipe([first, second, ("last", "two", [("copy", "two", (), ("z" + name,)) for name in "abc"])]))
        self.assertFails(TooMany, "limit", 2000, book.merged, book.branch())
        self.assertEqual(book.merged(book.branch(), limit=4000), ("merged", book.recipe()))


class TestBuilt(BookChecks, unittest.TestCase):

    def test_built(self):
        book = book_of(RUN, LINK)
        cache = Cache()
        for inputs, arguments in [(INPUTS, {"u": "x"}), (INPUTS, {"u": "y"}), ({}, {"u": "x"}), (INPUTS, {"u": "x"})]:
            self.assertEqual(book.built(inputs, arguments), cache.make(book.recipe(), inputs, arguments))
        tree, steps = book.built(INPUTS, {"u": "x"})
        self.assertEqual([tree, steps], [Run(book.recipe(), INPUTS, {"u": "x"}).tree(), []])

    def test_behind_what_was_undone(self):
        book = book_of(LINK)
        book.do(("put", 1, WRITE))
        self.assertEqual(book.built(INPUTS, {})[1], [("by", 0), ("last", 0), ("last", 1)])
        book.back()
        self.assertEqual(book.built(INPUTS, {}), (Run(book.recipe(), INPUTS, {}).tree(), []))
        book.do(("put", 0, WRITE))
        self.assertEqual(book.built(INPUTS, {})[1], [])
        book.do(("put", 0, DELETE))
        self.assertEqual(book.built(INPUTS, {})[1], [("last", 0)])
        book.drop(1)
        book.drop(0)
        book.late(0, ("put", 0, DELETE))
        self.assertEqual(book.built(INPUTS, {})[1], [])

    def test_books_do_not_share_a_cache(self):
        one, other = book_of(LINK), book_of(LINK)
        one.built(INPUTS, {})
        self.assertEqual(other.built(INPUTS, {})[1], [("by", 0), ("last", 0)])

    def test_arguments_stay_and_results_are_new(self):
        inputs, arguments = dict(INPUTS), {"u": "x"}
        book = book_of(RUN)
        tree, steps = book.built(inputs, arguments)
        steps.clear()
        self.assertEqual([inputs, arguments, book.built(inputs, arguments)], [INPUTS, {"u": "x"}, (tree, [])])


class TestTrials(BookChecks, unittest.TestCase):

    def book(self):
        book = book_of(LINK)
        for deed in [("put", 0, DELETE), ("put", 0, CLEAR), ("put", 0, WRITE)]:
            book.do(deed)
        book.back()
        book.built(INPUTS, {})
        return book

    def test_all_that_may_be_done_within(self):
        calls = [lambda book: book.do(("lose", 0)), lambda book: book.back(), lambda book: book.again(),
                 lambda book: book.late(1, ("put", 0, RUN)), lambda book: book.drop(0),
                 lambda book: book.built({}, {"u": "other"}), lambda book: book.tried([("lose", 0)]), lambda book: None]
        for first in calls:
            for second in calls:
                book = self.book()
                before, same = standing(book), book.branch()
                with book.trial() as recipe:
                    self.assertEqual(recipe, before[0])
                    for call in [first, second]:
                        for some in [book, same]:
                            try:
                                call(some)
                            except Nothing:
                                pass
                    # Within, all goes on as it does without a trial.
                    self.assertEqual(standing(book), standing(same))
                self.assertEqual(standing(book), before)
                self.assertEqual(book.again(), ("put", 0, WRITE))

    def test_the_cache_behind_a_trial(self):
        book = self.book()
        with book.trial():
            book.do(("put", 0, RUN))
            self.assertEqual(book.built(INPUTS, {})[1], [("last", 0)])
            self.assertEqual(book.built(INPUTS, {})[1], [])
        book.do(("put", 0, RUN))
        self.assertEqual(book.built(INPUTS, {})[1], [("last", 0)])

    def test_left_by_an_error(self):
        for error in [ValueError("x"), NoDeed(), KeyError(5), KeyboardInterrupt()]:
            book = self.book()
            before = standing(book)
            with self.assertRaises(error.__class__) as caught:
                with book.trial():
                    book.do(("lose", 0))
                    book.built({}, {})
                    raise error
            self.assertIs(caught.exception, error)
            self.assertEqual(standing(book), before)
        book = self.book()
        with self.assertRaises(NoStep):
            with book.trial():
                book.back()
                book.do(("lose", 99))
        self.assertEqual(standing(book), before)

    def test_left_by_return_and_break(self):
        book = self.book()
        before = standing(book)

        def leave():
            with book.trial():
                book.back()
                return len(book)

        self.assertEqual([leave(), standing(book)], [1, before])
        for _ in range(3):
            with book.trial():
                book.do(("lose", 0))
                break
        self.assertEqual(standing(book), before)

    def test_nested_trials(self):
        book = self.book()
        outer = standing(book)
        with book.trial():
            book.do(("lose", 0))
            book.built({}, {})
            inner = standing(book)
            with book.trial() as recipe:
                self.assertEqual(recipe, inner[0])
                book.back()
                book.late(0, ("put", 0, RUN))
                with self.assertRaises(Nothing):
                    with book.trial():
                        while True:
                            book.back()
                self.assertEqual(len(book), 3)
            self.assertEqual(standing(book), inner)
            with book.trial():
                book.drop(0)
            self.assertEqual(standing(book), inner)
        self.assertEqual(standing(book), outer)

    def test_trials_made_ahead_of_their_blocks(self):
        # What counts is how the book stood when the block was entered.
        book = self.book()
        first, second = book.trial(), book.trial()
        book.do(("put", 0, RUN))
        before = standing(book)
        with first as recipe:
            self.assertEqual(recipe, before[0])
            book.do(("lose", 0))
            inner = standing(book)
            with second:
                book.back()
            self.assertEqual(standing(book), inner)
        self.assertEqual(standing(book), before)

    def test_a_trial_alone_changes_nothing(self):
        book = self.book()
        before = standing(book)
        book.trial()
        self.assertEqual(standing(book), before)

    def test_branches_made_within(self):
        book = self.book()
        with book.trial():
            book.do(("put", 0, RUN))
            branch = book.branch()
        self.assertEqual([branch.log()[-1], len(book)], [("put", 0, RUN), 2])

    def test_tried(self):
        book = self.book()
        before = standing(book)
        deeds = [("put", 0, RUN), ("lose", 1), ("change", 0, WRITE), ("put", 2, CLEAR)]
        for many in range(5):
            other = book.branch()
            for deed in deeds[:many]:
                other.do(deed)
            self.assertEqual(book.tried(deeds[:many]), other.recipe())
            self.assertEqual(standing(book), before)

    def test_tried_with_one_that_is_refused(self):
        book = self.book()
        good = ("put", 0, LINK)
        for wrong in [("lose", 9), ("lose", -1), None, ("put", 0, ("copy", "last", A, B)), Odd(), [good], deep(list), *any_values()]:
            for at in range(3):
                self.assertRefused(Stopped, "at", at, book, book.tried, [*[good] * at, wrong, good, wrong])
        self.assertRefused(Stopped, "at", 5, book, book.tried, [good] * 9)
        self.assertRefused(Stopped, "at", 98, book, book.tried, [("change", 0, LINK)] * 200)
        self.assertEqual(book.tried([("change", 0, LINK)] * 98), book.tried([("change", 0, LINK)]))

    def test_tried_with_what_is_no_list(self):
        book = self.book()
        for thing in [(), (("lose", 0),), ("lose", 0), {"lose": 0}, iter([]), None, "", *any_values()]:
            if thing.__class__ is not list:
                with self.subTest(thing=thing):
                    self.assertRefused(Wrong, "place", 0, book, book.tried, thing)


class TestStays(unittest.TestCase):

    def test_returned_lists_are_new(self):
        book = book_of(LINK)
        book.do(("put", 0, DELETE))
        book.log().append(5)
        book.log().clear()
        self.assertEqual([book.log(), book.recipe()], [[("put", 0, DELETE)], made(DELETE, LINK)])

    def test_passed_lists_stay(self):
        deeds = [("put", 0, DELETE), ("lose", 0)]
        book_of(LINK).tried(deeds)
        self.assertEqual(deeds, [("put", 0, DELETE), ("lose", 0)])


if __name__ == "__main__":
    unittest.main()
