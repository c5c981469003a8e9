"""The latest hour at which a person knows in a story that fits [13], and what follows of it [15]."""

import itertools
import unittest

from knewby.books import Book
from knewby.earliest import earliest
from knewby.errors import KnewError, NoStory
from knewby.latest import latest
from knewby.stories import is_story, unfitted

LAST = 10 ** 18
TALE = ("fire",)
PERSONS = ["dora", "ann", "cleo", "bert"]


class Asking(unittest.TestCase):
    def assert_latest(self, hour, book, person):
        """The hour is told, with a story that fits and has the person at that hour, or not at all."""
        told = latest(book, person)
        self.assertIs(tuple, type(told))
        self.assertEqual(2, len(told))
        self.assertEqual(hour, told[0])
        story = told[1]
        self.assertIs(list, type(story))
        self.assertTrue(is_story(book, story), story)
        self.assertEqual([], unfitted(book, story))
        self.assertEqual([] if hour is None else [hour], [entry[1] for entry in story if entry[0] == person])

    def assert_torn(self, book):
        for person in book.persons():
            with self.assertRaises(NoStory):
                latest(book, person)


class Torn(Asking):
    SIGHTS = [("ann", 2, TALE)]
    TALKS = [(4, "ann", "bert", "both"), (6, "bert", "cleo", "one")]

    def made(self, *sayings):
        return Book(list(PERSONS), self.SIGHTS, self.TALKS, list(sayings))

    def test_one_that_nothing_comes_to(self):
        self.assert_torn(self.made(("knew", "dora", LAST)))

    def test_one_that_knew_too_early(self):
        self.assert_torn(self.made(("knew", "ann", 1)))
        self.assert_torn(self.made(("knew", "bert", 3)))
        self.assert_torn(self.made(("knew", "cleo", 5)))

    def test_one_saying_of_several(self):
        self.assert_torn(self.made(("knew", "ann", 9), ("knew", "cleo", 5), ("knew", "cleo", 9)))

    def test_bars_against_a_knew_saying(self):
        for bar in (("unheard", "cleo", 6), ("unheard", "cleo", None), ("silent", "bert", 6, 6),
                    ("barred", "cleo", "bert"), ("unheard", "ann", 2), ("silent", "ann", 0, 9),
                    ("barred", "bert", "ann")):
            self.assert_torn(self.made(("knew", "cleo", 9), bar))
        self.assert_latest(6, self.made(("knew", "cleo", 9)), "cleo")

    def test_two_talks_at_one_hour_do_not_follow(self):
        talks = [(4, "ann", "bert", "one"), (4, "bert", "cleo", "one")]
        self.assert_torn(Book(list(PERSONS), self.SIGHTS, talks, [("knew", "cleo", 9)]))
        self.assert_torn(Book(list(PERSONS), self.SIGHTS, talks[::-1], [("knew", "cleo", 9)]))

    def test_without_sights(self):
        self.assert_torn(Book(list(PERSONS), [], self.TALKS, [("knew", "bert", LAST)]))

    def test_the_refusal_is_of_the_program(self):
        with self.assertRaises(KnewError):
            latest(self.made(("knew", "dora", 9)), "ann")


class LeftOut(Asking):
    def test_where_nothing_is_said(self):
        book = Book(list(PERSONS), [("ann", 2, TALE)], [(4, "ann", "bert", "both"), (6, "bert", "cleo", "one")], [])
        for person in PERSONS:
            self.assert_latest(None, book, person)

    def test_the_least_book(self):
        self.assertEqual((None, []), latest(Book(["ann"], [], [], []), "ann"))

    def test_bars_alone_hold_nobody(self):
        sayings = [("unheard", "ann", 3), ("silent", "ann", 4, 5), ("barred", "cleo", "ann"), ("unheard", "dora", None)]
        book = Book(list(PERSONS), [("ann", 2, TALE), ("ann", 4, TALE)], [(6, "ann", "bert", "both")], sayings)
        for person in PERSONS:
            self.assert_latest(None, book, person)

    def test_one_that_can_not_know_while_others_must(self):
        book = Book(["ann", "bert"], [("ann", 2, TALE)], [], [("knew", "ann", 5)])
        self.assert_latest(None, book, "bert")
        self.assert_latest(2, book, "ann")

    def test_a_teller_in_whose_stead_another_can_tell(self):
        talks = [(4, "ann", "bert", "one"), (4, "ann", "dora", "one"),
                 (8, "bert", "cleo", "one"), (6, "dora", "cleo", "one")]
        book = Book(list(PERSONS), [("ann", 2, TALE)], talks, [("knew", "cleo", 9)])
        for person, hour in (("ann", 2), ("bert", None), ("cleo", 8), ("dora", None)):
            self.assert_latest(hour, book, person)

    def test_the_other_teller_comes_too_late(self):
        talks = [(4, "ann", "bert", "one"), (4, "ann", "dora", "one"),
                 (8, "bert", "cleo", "one"), (6, "dora", "cleo", "one")]
        book = Book(list(PERSONS), [("ann", 2, TALE)], talks, [("knew", "cleo", 7)])
        for person, hour in (("ann", 2), ("bert", None), ("cleo", 6), ("dora", 4)):
            self.assert_latest(hour, book, person)

    def test_a_teller_whose_hearer_can_have_seen(self):
        sights = [("ann", 2, TALE), ("bert", 5, TALE)]
        talks = [(4, "ann", "bert", "one")]
        self.assert_latest(None, Book(["ann", "bert"], sights, talks, [("knew", "bert", 5)]), "ann")
        self.assert_latest(2, Book(["ann", "bert"], sights, talks, [("knew", "bert", 4)]), "ann")


class Held(Asking):
    def test_by_a_saying_of_its_own_at_each_hour(self):
        talks = [(5, "ann", "bert", "one"), (3, "bert", "ann", "both"), (7, "ann", "bert", "one")]
        for said, hour in ((3, 3), (4, 3), (5, 5), (6, 5), (7, 7), (8, 7), (LAST, 7)):
            book = Book(["ann", "bert"], [("ann", 1, TALE)], talks, [("knew", "bert", said)])
            self.assert_latest(hour, book, "bert")
            self.assert_latest(1, book, "ann")

    def test_by_the_least_of_several_sayings_of_its_own(self):
        talks = [(3, "ann", "bert", "one"), (5, "ann", "bert", "one"), (7, "ann", "bert", "one")]
        for order in itertools.permutations([6, 9, 8]):
            sayings = [("knew", "bert", hour) for hour in order]
            self.assert_latest(5, Book(["ann", "bert"], [("ann", 1, TALE)], talks, sayings), "bert")

    def test_by_one_whom_it_must_have_told(self):
        talks = [(3, "ann", "bert", "one"), (7, "ann", "bert", "one"), (5, "ann", "bert", "one"),
                 (8, "bert", "cleo", "one")]
        book = Book(["ann", "bert", "cleo"], [("ann", 1, TALE)], talks, [("knew", "cleo", 9)])
        for person, hour in (("ann", 1), ("bert", 7), ("cleo", 8)):
            self.assert_latest(hour, book, person)

    def test_it_must_have_known_before_the_hour_at_which_it_told(self):
        talks = [(3, "ann", "bert", "one"), (8, "ann", "bert", "one"), (8, "bert", "cleo", "one")]
        book = Book(["ann", "bert", "cleo"], [("ann", 1, TALE)], talks, [("knew", "cleo", 8)])
        self.assert_latest(3, book, "bert")
        book = Book(["ann", "bert", "cleo"], [("ann", 1, TALE), ("bert", 7, TALE)], talks, [("knew", "cleo", 8)])
        self.assert_latest(7, book, "bert")
        book = Book(["ann", "bert", "cleo"], [("ann", 1, TALE), ("bert", 8, TALE)], talks, [("knew", "cleo", 8)])
        self.assert_latest(3, book, "bert")

    def test_by_one_at_the_end_of_a_chain(self):
        sights = [("ann", hour, TALE) for hour in (1, 3, 2, 5)]
        talks = [(4, "ann", "bert", "one"), (6, "bert", "cleo", "one"), (5, "bert", "cleo", "one"),
                 (7, "cleo", "dora", "one"), (6, "ann", "bert", "one")]
        book = Book(list(PERSONS), sights, talks, [("knew", "dora", 7)])
        for person, hour in (("ann", 3), ("bert", 4), ("cleo", 6), ("dora", 7)):
            self.assert_latest(hour, book, person)

    def test_by_two_whom_it_must_have_told(self):
        sights = [("ann", hour, TALE) for hour in range(9)]
        talks = [(7, "ann", "bert", "one"), (4, "ann", "cleo", "one")]
        for sayings in ([("knew", "bert", 9), ("knew", "cleo", 9)], [("knew", "cleo", 9), ("knew", "bert", 9)]):
            self.assert_latest(3, Book(["ann", "bert", "cleo"], sights, talks, sayings), "ann")

    def test_the_teller_of_a_late_talk_may_know_by_the_person_alone(self):
        talks = [(2, "ann", "bert", "one"), (4, "bert", "cleo", "both"), (6, "bert", "cleo", "both")]
        book = Book(["ann", "bert", "cleo"], [("ann", 1, TALE)], talks, [("knew", "bert", 9)])
        self.assert_latest(2, book, "bert")
        more = book.with_talk((5, "ann", "cleo", "one"))
        self.assert_latest(6, more, "bert")

    def test_the_teller_of_a_late_talk_may_know_too_late(self):
        talks = [(2, "ann", "bert", "one"), (6, "cleo", "bert", "one")]
        for saw, hour in ((5, 6), (6, 2), (7, 2)):
            book = Book(["ann", "bert", "cleo"], [("ann", 1, TALE), ("cleo", saw, TALE)], talks, [("knew", "bert", 9)])
            self.assert_latest(hour, book, "bert")

    def test_by_several_sights_and_tellings(self):
        sights = [("bert", 4, TALE), ("ann", 1, TALE), ("bert", 9, TALE)]
        talks = [(8, "ann", "bert", "one"), (2, "ann", "bert", "one"), (6, "ann", "bert", "one")]
        for said, hour in ((2, 2), (3, 2), (4, 4), (5, 4), (6, 6), (7, 6), (8, 8), (9, 9), (10, 9)):
            book = Book(["ann", "bert"], sights, talks, [("knew", "bert", said)])
            self.assert_latest(hour, book, "bert")
            self.assert_latest(1 if said < 4 else None, book, "ann")

    def test_two_tellers_and_a_sight_at_one_hour(self):
        talks = [(6, "bert", "cleo", "one"), (6, "ann", "cleo", "one")]
        for order in (talks, talks[::-1]):
            for sights in ([("ann", 1, TALE)], [("ann", 1, TALE), ("cleo", 6, TALE)]):
                book = Book(["ann", "bert", "cleo"], sights, order, [("knew", "cleo", 6)])
                self.assert_latest(6, book, "cleo")
                self.assert_latest(1 if len(sights) == 1 else None, book, "ann")

    def test_bars_close_late_ways(self):
        talks = [(3, "ann", "bert", "one"), (5, "ann", "bert", "one"), (7, "cleo", "bert", "one")]
        sights = [("ann", 1, TALE), ("cleo", 2, TALE), ("bert", 9, TALE)]
        for bars, hour in (([], 9), ([("unheard", "cleo", None)], 9), ([("silent", "cleo", 7, 7)], 9),
                           ([("barred", "bert", "cleo")], 9), ([("unheard", "bert", 8)], 9)):
            book = Book(["ann", "bert", "cleo"], sights, talks, [("knew", "bert", 9)] + bars)
            self.assert_latest(hour, book, "bert")
            book = Book(["ann", "bert", "cleo"], sights[:2], talks, [("knew", "bert", 8)] + bars)
            if ("unheard", "bert", 8) in bars:
                self.assert_torn(book)
            else:
                self.assert_latest(5 if bars else 7, book, "bert")

    def test_bars_close_early_ways(self):
        talks = [(3, "ann", "bert", "one"), (5, "ann", "bert", "one"), (7, "ann", "bert", "one")]
        sayings = [("unheard", "bert", 4), ("silent", "ann", 6, 9), ("knew", "bert", 9)]
        book = Book(["ann", "bert"], [("ann", 1, TALE)], talks, sayings)
        self.assert_latest(5, book, "bert")

    def test_hours_at_the_edges(self):
        talks = [(LAST - 1, "ann", "bert", "one"), (LAST, "bert", "cleo", "one"), (1, "ann", "bert", "one"),
                 (LAST, "ann", "bert", "one")]
        book = Book(["ann", "bert", "cleo"], [("ann", 0, TALE)], talks, [("knew", "cleo", LAST)])
        for person, hour in (("ann", 0), ("bert", LAST - 1), ("cleo", LAST)):
            self.assert_latest(hour, book, person)
        book = Book(["ann"], [("ann", 0, TALE)], [], [("knew", "ann", 0)])
        self.assert_latest(0, book, "ann")

    def test_others_are_at_hours_that_let_it_be_late(self):
        # Bert can be late only where cleo, whom he could have told early, hears from dora.
        talks = [(2, "ann", "bert", "one"), (3, "bert", "cleo", "one"), (4, "ann", "dora", "one"),
                 (5, "dora", "cleo", "one"), (6, "cleo", "bert", "one")]
        book = Book(list(PERSONS), [("ann", 1, TALE)], talks, [("knew", "bert", 9), ("knew", "cleo", 5)])
        for person, hour in (("ann", 1), ("bert", 6), ("cleo", 5), ("dora", None)):
            self.assert_latest(hour, book, person)

    def test_as_many_of_all_as_may_be(self):
        persons = ["x" + "abcdefghijklmnopqrstuvwxyz"[k] for k in range(24)]
        sights = [(persons[0], k, TALE) for k in range(24)]
        talks = [(100 + k, persons[k % 23], persons[k % 23 + 1], "both") for k in range(120)]
        sayings = [("knew", persons[23], 300 - k) for k in range(60)]
        book = Book(persons[::-1], sights, talks, sayings)
        self.assert_latest(23, book, persons[0])
        # Talk 22 mod 23 tells the last one; of five rounds the last whole one ends with talk 114.
        self.assert_latest(214, book, persons[23])
        for k in range(1, 23):
            self.assert_latest(191 + k, book, persons[k])


class ByAnHour(Asking):
    def test_in_all_stories_and_in_some(self):
        talks = [(3, "ann", "bert", "one"), (7, "ann", "bert", "one"), (9, "bert", "cleo", "one")]
        book = Book(["ann", "bert", "cleo"], [("ann", 1, TALE), ("ann", 5, TALE)], talks, [("knew", "bert", 8)])
        self.assertEqual([("ann", 1), ("bert", 3), ("cleo", 9)], earliest(book))
        for person, hour in (("ann", 5), ("bert", 7), ("cleo", None)):
            self.assert_latest(hour, book, person)
        # What is said besides of bert's not having heard by 6 is fitted, by 7 it isn't.
        self.assert_latest(7, book.with_saying(("unheard", "bert", 6)), "bert")
        self.assert_torn(book.with_saying(("unheard", "bert", 7)))


if __name__ == "__main__":
    unittest.main()
