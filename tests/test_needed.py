"""Needed tellers, and a story without the tellings of one that isn't needed [14]."""

import unittest

from knewby.books import Book
from knewby.earliest import earliest_story
from knewby.errors import KnewError, NoStory
from knewby.needed import needed, story_without
from knewby.stories import is_story, unfitted

LAST = 10 ** 18
TALE = ("fire",)
PERSONS = ["dora", "ann", "cleo", "bert"]


def tellers_in(story):
    return [way[2] for person, hour, way in story if way[0] == "heard"]


class Asking(unittest.TestCase):
    def assert_needed(self, names, book):
        """These are told, and a story without each other one."""
        told = needed(book)
        self.assertIs(list, type(told))
        self.assertEqual(names, told)
        for person in book.persons():
            story = story_without(book, person)
            if person in names:
                self.assertIsNone(story)
            else:
                self.assertIs(list, type(story))
                self.assertTrue(is_story(book, story), story)
                self.assertEqual([], unfitted(book, story))
                self.assertNotIn(person, tellers_in(story))

    def assert_torn(self, book):
        with self.assertRaises(NoStory):
            needed(book)
        for person in book.persons():
            with self.assertRaises(NoStory):
                story_without(book, person)


class Torn(Asking):
    SIGHTS = [("ann", 2, TALE)]
    TALKS = [(4, "ann", "bert", "both"), (6, "bert", "cleo", "one")]

    def made(self, *sayings):
        return Book(list(PERSONS), self.SIGHTS, self.TALKS, list(sayings))

    def test_a_knew_saying_that_can_not_be(self):
        self.assert_torn(self.made(("knew", "dora", LAST)))
        self.assert_torn(self.made(("knew", "ann", 1)))
        self.assert_torn(self.made(("knew", "ann", 9), ("knew", "cleo", 5)))

    def test_bars_against_a_knew_saying(self):
        for bar in (("unheard", "cleo", 6), ("unheard", "cleo", None), ("silent", "bert", 6, 6),
                    ("barred", "cleo", "bert"), ("unheard", "ann", 2), ("silent", "ann", 0, 9),
                    ("barred", "bert", "ann")):
            self.assert_torn(self.made(("knew", "cleo", 9), bar))

    def test_the_refusal_is_of_the_program(self):
        book = self.made(("knew", "dora", 9))
        with self.assertRaises(KnewError):
            needed(book)
        with self.assertRaises(KnewError):
            story_without(book, "ann")


class Nobody(Asking):
    def test_where_nothing_is_said(self):
        book = Book(list(PERSONS), [("ann", 2, TALE)], [(4, "ann", "bert", "both"), (6, "bert", "cleo", "one")], [])
        self.assert_needed([], book)

    def test_the_least_book(self):
        book = Book(["ann"], [], [], [])
        self.assert_needed([], book)
        self.assertEqual([], story_without(book, "ann"))

    def test_one_who_saw_needs_nobody(self):
        book = Book(["ann", "bert"], [("ann", 2, TALE)], [(4, "ann", "bert", "both")], [("knew", "ann", 2)])
        self.assert_needed([], book)

    def test_one_who_saw_and_heard(self):
        sights = [("ann", 2, TALE), ("bert", 6, TALE)]
        talks = [(4, "ann", "bert", "both")]
        self.assert_needed([], Book(["ann", "bert"], sights, talks, [("knew", "bert", 6)]))
        self.assert_needed(["ann"], Book(["ann", "bert"], sights, talks, [("knew", "bert", 5)]))

    def test_two_who_tell_the_same_one(self):
        sights = [("ann", 2, TALE), ("cleo", 3, TALE)]
        talks = [(4, "ann", "bert", "one"), (6, "cleo", "bert", "one")]
        self.assert_needed([], Book(["ann", "bert", "cleo"], sights, talks, [("knew", "bert", 6)]))
        self.assert_needed(["ann"], Book(["ann", "bert", "cleo"], sights, talks, [("knew", "bert", 5)]))

    def test_bars_alone(self):
        sayings = [("unheard", "bert", 3), ("silent", "ann", 7, 8), ("barred", "cleo", "bert"), ("unheard", "dora", None)]
        book = Book(list(PERSONS), [("ann", 2, TALE)], [(4, "ann", "bert", "both")], sayings)
        self.assert_needed([], book)


class SomeAre(Asking):
    def test_one(self):
        book = Book(["bert", "ann"], [("ann", 2, TALE)], [(4, "ann", "bert", "both")], [("knew", "bert", 4)])
        self.assert_needed(["ann"], book)

    def test_all_of_a_chain_but_the_last(self):
        talks = [(6, "cleo", "bert", "both"), (8, "dora", "bert", "both"), (4, "ann", "cleo", "both")]
        book = Book(list(PERSONS), [("ann", 2, TALE)], talks, [("knew", "dora", 8)])
        self.assert_needed(["ann", "bert", "cleo"], book)
        self.assert_needed(["ann", "cleo"], book.with_saying(("knew", "bert", 9)).without_saying(0))

    def test_they_are_sorted(self):
        talks = [(4, "zoe", "ann", "one"), (6, "ann", "mia", "one"), (8, "mia", "bert", "one")]
        book = Book(["zoe", "bert", "mia", "ann"], [("zoe", 2, TALE)], talks, [("knew", "bert", 8)])
        self.assert_needed(["ann", "mia", "zoe"], book)

    def test_though_each_talk_can_be_left_out(self):
        talks = [(3, "ann", "bert", "one"), (5, "bert", "ann", "both")]
        book = Book(["ann", "bert"], [("ann", 2, TALE)], talks, [("knew", "bert", 6)])
        self.assert_needed(["ann"], book)
        for k in (0, 1):
            less = Book(["ann", "bert"], [("ann", 2, TALE)], talks[:k] + talks[k + 1:], [("knew", "bert", 6)])
            self.assertEqual([], unfitted(less, earliest_story(less)))

    def test_though_each_hearer_can_be_left_out(self):
        talks = [(3, "ann", "bert", "one"), (4, "ann", "cleo", "one"),
                 (5, "bert", "dora", "one"), (6, "cleo", "dora", "one")]
        book = Book(list(PERSONS), [("ann", 2, TALE)], talks, [("knew", "dora", 6)])
        self.assert_needed(["ann"], book)
        self.assertEqual({"ann", "cleo"}, set(tellers_in(story_without(book, "bert"))))
        self.assertEqual({"ann", "bert"}, set(tellers_in(story_without(book, "cleo"))))
        self.assert_needed(["ann", "bert"], book.with_saying(("knew", "dora", 5)))

    def test_one_for_each_of_two_that_must_know(self):
        sights = [("ann", 2, TALE), ("dora", 2, TALE)]
        talks = [(4, "ann", "bert", "one"), (5, "dora", "cleo", "one")]
        sayings = [("knew", "bert", 9), ("knew", "cleo", 9)]
        self.assert_needed(["ann", "dora"], Book(list(PERSONS), sights, talks, sayings))
        self.assert_needed(["ann"], Book(list(PERSONS), sights, talks, sayings[:1]))
        self.assert_needed(["dora"], Book(list(PERSONS), sights, talks, sayings[1:]))

    def test_a_bar_makes_another_needed(self):
        sights = [("ann", 2, TALE), ("cleo", 3, TALE)]
        talks = [(4, "ann", "bert", "one"), (6, "cleo", "bert", "one")]
        for bar in (("unheard", "ann", None), ("unheard", "bert", 4), ("silent", "ann", 4, 4), ("barred", "bert", "ann")):
            book = Book(["ann", "bert", "cleo"], sights, talks, [("knew", "bert", 6), bar])
            self.assert_needed(["cleo"], book)

    def test_a_talk_at_the_hour_of_the_telling_does_not_help(self):
        talks = [(4, "ann", "bert", "one"), (6, "bert", "cleo", "one"), (6, "ann", "dora", "one"),
                 (6, "dora", "cleo", "one")]
        book = Book(list(PERSONS), [("ann", 2, TALE)], talks, [("knew", "cleo", 9)])
        self.assert_needed(["ann", "bert"], book)
        more = Book(list(PERSONS), [("ann", 2, TALE)], talks + [(7, "dora", "cleo", "one")], [("knew", "cleo", 9)])
        self.assert_needed(["ann"], more)

    def test_one_that_tells_another_way_round(self):
        # Cleo hears from bert alone, but bert can know by himself later than ann's telling.
        sights = [("ann", 1, TALE), ("bert", 5, TALE)]
        talks = [(3, "ann", "bert", "one"), (4, "bert", "cleo", "one"), (6, "bert", "cleo", "one")]
        self.assert_needed(["ann", "bert"], Book(["ann", "bert", "cleo"], sights, talks, [("knew", "cleo", 5)]))
        self.assert_needed(["bert"], Book(["ann", "bert", "cleo"], sights, talks, [("knew", "cleo", 6)]))

    def test_hours_at_the_edges(self):
        talks = [(LAST, "ann", "bert", "one"), (LAST, "cleo", "bert", "one"), (1, "ann", "cleo", "one")]
        book = Book(["ann", "bert", "cleo"], [("ann", 0, TALE)], talks, [("knew", "bert", LAST)])
        self.assert_needed(["ann"], book)
        self.assert_needed(["ann", "cleo"], book.with_saying(("silent", "ann", LAST, LAST)))
        self.assert_needed([], book.without_saying(0))

    def test_as_many_of_all_as_may_be(self):
        persons = ["x" + "abcdefghijklmnopqrstuvwxyz"[k] for k in range(24)]
        sights = [(persons[0], k, TALE) for k in range(24)]
        talks = [(100 + k, persons[k % 23], persons[k % 23 + 1], "both") for k in range(120)]
        sayings = [("knew", persons[23], 300 - k) for k in range(60)]
        self.assert_needed(persons[:23], Book(persons[::-1], sights, talks, sayings))


class Without(Asking):
    def test_the_person_itself_may_be_in_the_story(self):
        sights = [("ann", 2, TALE), ("cleo", 3, TALE)]
        talks = [(4, "ann", "bert", "one"), (6, "cleo", "bert", "one")]
        sayings = [("knew", "bert", 6), ("knew", "ann", 9)]
        book = Book(["ann", "bert", "cleo"], sights, talks, sayings)
        self.assert_needed([], book)
        for person in ("ann", "bert", "cleo"):
            self.assertEqual({"ann", "bert"}, {entry[0] for entry in story_without(book, person)} & {"ann", "bert"})
        self.assertEqual(["cleo"], tellers_in(story_without(book, "ann")))
        self.assertEqual(["ann"], tellers_in(story_without(book, "cleo")))

    def test_one_that_heard_and_is_not_needed(self):
        talks = [(4, "ann", "bert", "one"), (6, "bert", "cleo", "one"), (8, "ann", "cleo", "one")]
        sayings = [("knew", "bert", 9), ("knew", "cleo", 9)]
        book = Book(["ann", "bert", "cleo"], [("ann", 2, TALE)], talks, sayings)
        self.assert_needed(["ann"], book)
        story = story_without(book, "bert")
        self.assertEqual([("ann", 2, ("saw", 0)), ("bert", 4, ("heard", 0, "ann")), ("cleo", 8, ("heard", 2, "ann"))],
                         story)

    def test_nobody_that_must_know_is_left_out(self):
        book = Book(["ann", "bert"], [("ann", 2, TALE)], [(4, "ann", "bert", "one")], [("knew", "ann", 2)])
        self.assertIn(("ann", 2, ("saw", 0)), story_without(book, "ann"))
        self.assertIn(("ann", 2, ("saw", 0)), story_without(book, "bert"))


if __name__ == "__main__":
    unittest.main()
