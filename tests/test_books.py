"""What a book tells, the books made of it, and that nobody's lists are shared [2], [5], [6]."""

import copy
import unittest

from knewby.books import Book
from knewby.errors import NoBook, NoSaying
from tests.things import no_texts_or_numbers

PERSONS = ["dora", "ann", "bert", "cleo"]
SIGHTS = [("bert", 7, ("fire", "mill")), ("ann", 3, ("fire",)), ("bert", 7, ("fire", "mill"))]
TALKS = [(9, "bert", "ann", "both"), (4, "ann", "dora", "one"), (4, "cleo", "dora", "both"), (4, "ann", "dora", "one")]
SAYINGS = [
    ("silent", "ann", 2, 5),
    ("knew", "dora", 9),
    ("unheard", "cleo", None),
    ("barred", "dora", "bert"),
    ("knew", "dora", 9),
    ("unheard", "ann", 0),
]


def sample():
    return Book(list(PERSONS), list(SIGHTS), list(TALKS), list(SAYINGS))


def told(book):
    return [book.persons(), book.sights(), book.talks(), book.sayings(), book.tellings()]


class Telling(unittest.TestCase):
    def test_each_list_in_the_order_handed_in(self):
        book = sample()
        self.assertEqual(PERSONS, book.persons())
        self.assertEqual(SIGHTS, book.sights())
        self.assertEqual(TALKS, book.talks())
        self.assertEqual(SAYINGS, book.sayings())

    def test_lists_of_tuples_are_told(self):
        book = sample()
        for rows in told(book):
            self.assertIs(list, type(rows))
        for rows in (book.sights(), book.talks(), book.sayings(), book.tellings()):
            self.assertEqual({tuple}, {type(row) for row in rows})

    def test_the_least_book(self):
        self.assertEqual([["ann"], [], [], [], []], told(Book(["ann"], [], [], [])))

    def test_asked_again_it_tells_the_same(self):
        book = sample()
        self.assertEqual(told(book), told(book))
        self.assertEqual(told(book), told(sample()))


class OneMore(unittest.TestCase):
    def assert_refused(self, part, made_with, one):
        with self.assertRaises(NoBook) as taken:
            made_with(one)
        self.assertEqual(part, taken.exception.part)

    def test_a_sight_more(self):
        book = sample()
        one = ("cleo", 0, ("smoke",))
        more = book.with_sight(one)
        self.assertIsInstance(more, Book)
        self.assertEqual([PERSONS, SIGHTS + [one], TALKS, SAYINGS], told(more)[:4])
        self.assertEqual(told(sample()), told(book))

    def test_a_talk_more(self):
        book = sample()
        one = (0, "dora", "cleo", "both")
        more = book.with_talk(one)
        self.assertIsInstance(more, Book)
        self.assertEqual([PERSONS, SIGHTS, TALKS + [one], SAYINGS], told(more)[:4])
        self.assertEqual(book.tellings() + [(4, "dora", "cleo"), (4, "cleo", "dora")], more.tellings())
        self.assertEqual(told(sample()), told(book))

    def test_a_saying_more_of_each_kind(self):
        book = sample()
        for one in [("knew", "ann", 0), ("unheard", "bert", None), ("silent", "cleo", 5, 5), ("barred", "ann", "bert")]:
            with self.subTest(one=one):
                more = book.with_saying(one)
                self.assertIsInstance(more, Book)
                self.assertEqual([PERSONS, SIGHTS, TALKS, SAYINGS + [one]], told(more)[:4])
                self.assertEqual(told(sample()), told(book))

    def test_one_that_is_there_already(self):
        book = sample()
        self.assertEqual(SIGHTS + SIGHTS[:1], book.with_sight(SIGHTS[0]).sights())
        self.assertEqual(TALKS + TALKS[:1], book.with_talk(TALKS[0]).talks())
        self.assertEqual(SAYINGS + SAYINGS[:1], book.with_saying(SAYINGS[0]).sayings())

    def test_several_behind_one_another(self):
        book = Book(["ann", "bert"], [], [], [])
        book = book.with_saying(("knew", "ann", 1)).with_sight(("ann", 2, ("x",))).with_talk((3, "ann", "bert", "one"))
        book = book.with_saying(("knew", "ann", 4)).with_sight(("ann", 5, ("y",))).with_talk((6, "bert", "ann", "one"))
        self.assertEqual([("ann", 2, ("x",)), ("ann", 5, ("y",))], book.sights())
        self.assertEqual([(3, "ann", "bert", "one"), (6, "bert", "ann", "one")], book.talks())
        self.assertEqual([("knew", "ann", 1), ("knew", "ann", 4)], book.sayings())

    def test_a_wrong_sight(self):
        book = sample()
        for one in [("eve", 3, ("fire",)), ("ann", -1, ("fire",)), ("ann", 3, ()), ["ann", 3, ("fire",)], None, "ann"]:
            with self.subTest(one=one):
                self.assert_refused("sights", book.with_sight, one)
        self.assertEqual(told(sample()), told(book))

    def test_a_wrong_talk(self):
        book = sample()
        for one in [(3, "ann", "ann", "both"), (3, "ann", "eve", "one"), (3, "ann", "bert", "none"), [], None, 5]:
            with self.subTest(one=one):
                self.assert_refused("talks", book.with_talk, one)
        self.assertEqual(told(sample()), told(book))

    def test_a_wrong_saying(self):
        book = sample()
        for one in [("knew", "ann", None), ("silent", "ann", 3, 2), ("barred", "ann", "ann"), ("told", "ann", 3), 0, {}]:
            with self.subTest(one=one):
                self.assert_refused("sayings", book.with_saying, one)
        self.assertEqual(told(sample()), told(book))

    def test_things_of_all_kinds(self):
        book = sample()
        for one in no_texts_or_numbers():
            with self.subTest(one=one):
                self.assert_refused("sights", book.with_sight, one)
                self.assert_refused("talks", book.with_talk, one)
                self.assert_refused("sayings", book.with_saying, one)

    def test_up_to_the_bound_and_no_further(self):
        book = Book(["ann", "bert"], [SIGHT] * 23, [TALK] * 119, [SAYING] * 59)
        full = book.with_sight(SIGHT).with_talk(TALK).with_saying(SAYING)
        self.assertEqual([SIGHT] * 24, full.sights())
        self.assertEqual([TALK] * 120, full.talks())
        self.assertEqual([SAYING] * 60, full.sayings())
        self.assert_refused("sights", full.with_sight, SIGHT)
        self.assert_refused("talks", full.with_talk, TALK)
        self.assert_refused("sayings", full.with_saying, SAYING)
        self.assertEqual([24, 120, 60], [len(full.sights()), len(full.talks()), len(full.sayings())])
        self.assertEqual([23, 119, 59], [len(book.sights()), len(book.talks()), len(book.sayings())])


SIGHT = ("ann", 3, ("fire",))
TALK = (3, "ann", "bert", "both")
SAYING = ("knew", "ann", 3)


class LeftOut(unittest.TestCase):
    def test_each_number(self):
        book = sample()
        for number in range(len(SAYINGS)):
            with self.subTest(number=number):
                less = book.without_saying(number)
                self.assertIsInstance(less, Book)
                others = [saying for k, saying in enumerate(SAYINGS) if k != number]
                self.assertEqual([PERSONS, SIGHTS, TALKS, others], told(less)[:4])
                self.assertEqual(told(sample()), told(book))

    def test_alike_ones_are_left_out_by_number(self):
        rest = [SAYINGS[0], SAYINGS[1], SAYINGS[2], SAYINGS[3], SAYINGS[5]]
        self.assertEqual(rest, sample().without_saying(4).sayings())

    def test_the_only_one(self):
        book = Book(["ann"], [], [], [("knew", "ann", 3)])
        self.assertEqual([], book.without_saying(0).sayings())
        with self.assertRaises(NoSaying):
            book.without_saying(0).without_saying(0)

    def test_numbers_that_are_none(self):
        book = sample()
        for number in (-1, -2, -len(SAYINGS), len(SAYINGS), len(SAYINGS) + 1, 10 ** 18, -(10 ** 30), 10 ** 30):
            with self.subTest(number=number):
                with self.assertRaises(NoSaying):
                    book.without_saying(number)
        self.assertEqual(told(sample()), told(book))

    def test_things_that_are_no_whole_number(self):
        book = sample()
        for number in no_texts_or_numbers() + [None, "", "0", "1", "knew", SAYINGS[0], slice(0, 1)]:
            with self.subTest(number=number):
                with self.assertRaises(NoSaying):
                    book.without_saying(number)
        self.assertEqual(told(sample()), told(book))

    def test_a_full_book_takes_another_one_then(self):
        full = Book(["ann"], [], [], [("knew", "ann", hour) for hour in range(60)])
        book = full.without_saying(0).with_saying(("knew", "ann", 99))
        self.assertEqual([("knew", "ann", hour) for hour in range(1, 60)] + [("knew", "ann", 99)], book.sayings())


class NothingShared(unittest.TestCase):
    def test_nothing_handed_in_is_changed(self):
        parts = [list(PERSONS), list(SIGHTS), list(TALKS), list(SAYINGS)]
        before = copy.deepcopy(parts)
        book = Book(*parts)
        told(book)
        book.with_sight(SIGHT).with_talk(TALK).with_saying(SAYING).without_saying(0)
        self.assertEqual(before, parts)

    def test_a_change_to_what_was_handed_in(self):
        for change in (spoil, empty):
            for place in range(4):
                with self.subTest(change=change.__name__, place=place):
                    parts = [list(PERSONS), list(SIGHTS), list(TALKS), list(SAYINGS)]
                    book = Book(*parts)
                    change(parts[place])
                    self.assertEqual(told(sample()), told(book))

    def test_a_change_to_what_was_told(self):
        for change in (spoil, empty):
            for place in range(5):
                with self.subTest(change=change.__name__, place=place):
                    book = sample()
                    change(told(book)[place])
                    self.assertEqual(told(sample()), told(book))

    def test_what_was_told_stays_when_told_again(self):
        book = sample()
        first = told(book)
        for rows in told(book):
            empty(rows)
        self.assertEqual(told(sample()), first)

    def test_books_made_of_one_share_no_list_with_it(self):
        for make in (
            lambda book: book.with_sight(SIGHT),
            lambda book: book.with_talk(TALK),
            lambda book: book.with_saying(SAYING),
            lambda book: book.without_saying(1),
        ):
            book = sample()
            made = make(book)
            before = told(made)
            for rows in told(book):
                empty(rows)
            self.assertEqual(before, told(made))
            for rows in told(made):
                spoil(rows)
            self.assertEqual(told(sample()), told(book))
            self.assertEqual(before, told(made))

    def test_one_list_handed_in_for_several_parts(self):
        rows = []
        book = Book(["ann"], rows, rows, rows)
        rows.append("something")
        self.assertEqual([["ann"], [], [], [], []], told(book))


def spoil(rows):
    rows[0] = "spoilt"
    rows.append("spoilt")


def empty(rows):
    rows.clear()


class Tellings(unittest.TestCase):
    def test_talk_by_talk(self):
        self.assertEqual(
            [
                (0, "bert", "ann"), (0, "ann", "bert"),
                (1, "ann", "dora"),
                (2, "cleo", "dora"), (2, "dora", "cleo"),
                (3, "ann", "dora"),
            ],
            sample().tellings(),
        )

    def test_of_one_the_first_named_tells_the_second(self):
        self.assertEqual([(0, "bert", "ann")], Book(["ann", "bert"], [], [(5, "bert", "ann", "one")], []).tellings())

    def test_of_both_the_first_named_comes_first(self):
        book = Book(["ann", "bert"], [], [(5, "bert", "ann", "both")], [])
        self.assertEqual([(0, "bert", "ann"), (0, "ann", "bert")], book.tellings())

    def test_order_of_talks_not_of_hours_or_names(self):
        talks = [(9, "cleo", "bert", "one"), (1, "ann", "bert", "one"), (5, "bert", "ann", "one")]
        self.assertEqual(
            [(0, "cleo", "bert"), (1, "ann", "bert"), (2, "bert", "ann")],
            Book(["ann", "bert", "cleo"], [], talks, []).tellings(),
        )

    def test_closed_ones_are_tellings_too(self):
        sayings = [("unheard", "ann", None), ("silent", "bert", 0, 9), ("barred", "ann", "bert")]
        book = Book(["ann", "bert"], [], [(5, "bert", "ann", "one")], sayings)
        self.assertEqual([(0, "bert", "ann")], book.tellings())

    def test_a_book_without_talks(self):
        book = Book(["ann", "bert"], [("ann", 3, ("fire",))], [], [("knew", "bert", 5)])
        self.assertEqual([], book.tellings())


if __name__ == "__main__":
    unittest.main()
