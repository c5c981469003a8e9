"""What a paper is [11], and what is settled of a book [12]."""

import unittest

from knewby.books import Book
from knewby.earliest import earliest, earliest_story
from knewby.hourpapers import is_paper, settled
from knewby.stories import is_story, unfitted

LAST = 10 ** 18
TALE = ("fire",)
PERSONS = ["dora", "ann", "cleo", "bert"]
SIGHTS = [("ann", 2, TALE), ("bert", 9, TALE)]
TALKS = [(4, "ann", "bert", "one"), (6, "bert", "cleo", "one"), (1, "cleo", "dora", "one")]
PAPER = [("ann", 2), ("bert", 4), ("cleo", 6), ("dora", None)]


def sample(*sayings):
    return Book(list(PERSONS), list(SIGHTS), list(TALKS), list(sayings))


def with_hour(person, hour):
    return [(one, hour if one == person else kept) for one, kept in PAPER]


class Papers(unittest.TestCase):
    def assert_paper(self, some, book=None):
        with self.subTest(some=some):
            self.assertIs(is_paper(book or sample(), some), True)

    def assert_none(self, some, book=None):
        with self.subTest(some=some):
            self.assertIs(is_paper(book or sample(), some), False)

    def test_the_earliest_hours(self):
        self.assertEqual(PAPER, earliest(sample()))
        self.assert_paper(PAPER)

    def test_an_hour_later(self):
        for person, hour in PAPER[:3]:
            self.assert_none(with_hour(person, hour + 1))
            self.assert_none(with_hour(person, LAST))

    def test_none_in_the_stead_of_an_hour(self):
        for person, hour in PAPER[:3]:
            self.assert_none(with_hour(person, None))

    def test_an_hour_earlier(self):
        for person, hour in PAPER[:3]:
            self.assert_paper(with_hour(person, hour - 1))

    def test_an_earlier_hour_that_makes_a_talk_count(self):
        # Cleo talks to dora at 1, so a cleo that knew by nought wants dora's hour.
        self.assert_paper(with_hour("cleo", 1))
        self.assert_none(with_hour("cleo", 0))
        self.assert_paper([("ann", 2), ("bert", 4), ("cleo", 0), ("dora", 1)])
        self.assert_none([("ann", 2), ("bert", 4), ("cleo", 0), ("dora", 2)])

    def test_the_talk_later_than_the_teller_at_its_hour_and_earlier(self):
        book = Book(["ann", "bert"], [], [(4, "ann", "bert", "one")], [])
        self.assert_none([("ann", 3), ("bert", None)], book)
        self.assert_paper([("ann", 3), ("bert", 4)], book)
        self.assert_none([("ann", 3), ("bert", 5)], book)
        self.assert_paper([("ann", 4), ("bert", None)], book)
        self.assert_paper([("ann", 5), ("bert", None)], book)
        self.assert_paper([("ann", None), ("bert", None)], book)
        self.assert_paper([("ann", None), ("bert", 0)], book)

    def test_a_sight_at_below_and_above(self):
        book = Book(["ann"], [("ann", 5, TALE)], [], [])
        self.assert_paper([("ann", 4)], book)
        self.assert_paper([("ann", 5)], book)
        self.assert_none([("ann", 6)], book)
        self.assert_none([("ann", None)], book)

    def test_each_sight_counts(self):
        for hours in ((5, 3), (3, 5)):
            book = Book(["ann"], [("ann", hour, TALE) for hour in hours], [], [])
            self.assert_paper([("ann", 3)], book)
            self.assert_none([("ann", 4)], book)

    def test_an_hour_of_one_that_nothing_comes_to(self):
        for hour in (None, 0, 5, LAST):
            self.assert_paper(with_hour("dora", hour))

    def test_all_at_the_first_hour(self):
        self.assert_paper([(person, 0) for person in sorted(PERSONS)])

    def test_all_without_an_hour(self):
        self.assert_none([(person, None) for person in sorted(PERSONS)])
        self.assert_paper([("ann", None), ("bert", None)], Book(["ann", "bert"], [], [(4, "ann", "bert", "both")], []))
        self.assert_paper([("ann", None)], Book(["ann"], [("ann", 4, TALE)], [], [("unheard", "ann", None)]))

    def test_closed_ones_ask_for_nothing(self):
        self.assert_paper(with_hour("ann", None), sample(("unheard", "ann", 2)))
        self.assert_none(with_hour("ann", None), sample(("unheard", "ann", 1)))
        for saying in (("silent", "bert", 6, 6), ("barred", "cleo", "bert"), ("unheard", "cleo", 6)):
            self.assert_paper(with_hour("cleo", None), sample(saying))
        others = [("silent", "bert", 7, 9), ("barred", "bert", "cleo"), ("unheard", "cleo", 5), ("knew", "cleo", 9)]
        for saying in others:
            self.assert_none(with_hour("cleo", None), sample(saying))

    def test_the_way_of_a_talk(self):
        sights = [("bert", 2, TALE)]
        papers = {"one": True, "both": False}
        for way in ("one", "both"):
            book = Book(["ann", "bert"], sights, [(4, "ann", "bert", way)], [])
            self.assertIs(is_paper(book, [("ann", None), ("bert", 2)]), papers[way])

    def test_unsorted(self):
        for place in range(3):
            some = list(PAPER)
            some[place], some[place + 1] = some[place + 1], some[place]
            self.assert_none(some)
        self.assert_none(PAPER[::-1])
        self.assert_none([(person, dict(PAPER)[person]) for person in PERSONS])

    def test_a_person_lacking(self):
        for place in range(4):
            self.assert_none(PAPER[:place] + PAPER[place + 1:])
        self.assert_none([])
        self.assert_none([], Book(["ann"], [], [], []))

    def test_a_person_twice(self):
        for place in range(4):
            self.assert_none(PAPER[:place] + [PAPER[place]] + PAPER[place:])
        for place in range(3):
            self.assert_none(PAPER[:place] + [PAPER[place + 1]] + PAPER[place + 1:])

    def test_another_one(self):
        for text in ("eve", "zed", "", "Ann", "aaa", "annn"):
            self.assert_none(sorted(PAPER[:3]) + [(text, None)])
            self.assert_none(sorted(PAPER + [(text, 3)], key=lambda one: one[0]))
            for place in range(4):
                others = PAPER[:place] + PAPER[place + 1:] + [(text, 0)]
                self.assert_none(sorted(others, key=lambda one: one[0]))

    def test_numbers_beyond_the_hours_are_walked_like_others(self):
        self.assert_paper(with_hour("ann", -1))
        self.assert_paper(with_hour("dora", LAST + 1))
        self.assert_none(with_hour("cleo", -1))
        self.assert_none(with_hour("cleo", LAST + 1))

    def test_the_first_and_the_last_hours(self):
        book = Book(["ann", "bert"], [("ann", 0, TALE)], [(LAST, "ann", "bert", "one")], [])
        self.assert_paper([("ann", 0), ("bert", LAST)], book)
        self.assert_none([("ann", 1), ("bert", LAST)], book)
        self.assert_none([("ann", 0), ("bert", None)], book)


class Settled(unittest.TestCase):
    def assert_story(self, book, story):
        told = settled(book)
        self.assertIs(tuple, type(told))
        self.assertEqual(("story", story), told)
        self.assertEqual(earliest_story(book), story)
        self.assertTrue(is_story(book, told[1]))
        self.assertEqual([], unfitted(book, told[1]))

    def assert_broken(self, book, k):
        told = settled(book)
        self.assertIs(tuple, type(told))
        self.assertEqual(("paper", earliest(book), k), told)
        self.assertTrue(is_paper(book, told[1]))
        kind, person, hour = book.sayings()[k]
        self.assertEqual("knew", kind)
        self.assertTrue(dict(told[1])[person] is None or hour < dict(told[1])[person])

    STORY = [("ann", 2, ("saw", 0)), ("bert", 4, ("heard", 0, "ann")), ("cleo", 6, ("heard", 1, "bert"))]

    def test_a_book_that_a_story_fits(self):
        self.assert_story(sample(), self.STORY)
        self.assert_story(sample(("knew", "cleo", 6), ("knew", "ann", 2), ("knew", "bert", LAST)), self.STORY)
        bars = [("unheard", "dora", None), ("barred", "dora", "ann"), ("silent", "ann", 0, 3)]
        self.assert_story(sample(*bars), self.STORY)

    def test_a_book_without_sights(self):
        self.assert_story(Book(["ann"], [], [], []), [])
        self.assert_story(Book(["ann"], [], [], [("unheard", "ann", None)]), [])
        self.assert_broken(Book(["ann"], [], [], [("knew", "ann", LAST)]), 0)

    def test_a_knew_saying_at_the_hour_and_an_hour_before(self):
        for person, hour in (("ann", 2), ("bert", 4), ("cleo", 6)):
            self.assert_story(sample(("knew", person, hour)), self.STORY)
            self.assert_broken(sample(("knew", person, hour - 1)), 0)

    def test_one_that_can_not_be_among_others(self):
        sayings = [("unheard", "dora", 9), ("knew", "ann", 2), ("knew", "bert", 3), ("knew", "cleo", 6)]
        self.assert_broken(sample(*sayings), 2)

    def test_of_several_the_least_number(self):
        sayings = [("knew", "ann", 2), ("silent", "dora", 0, 9), ("knew", "cleo", 5), ("knew", "bert", 0),
                   ("knew", "ann", 0)]
        self.assert_broken(sample(*sayings), 2)
        self.assert_broken(sample(*sayings[::-1]), 0)
        self.assert_broken(sample(*(sayings[:2] + sayings[3:])), 2)
        self.assert_broken(sample(*(sayings[:2] + sayings[4:])), 2)

    def test_one_of_a_person_that_nothing_comes_to(self):
        self.assert_broken(sample(("knew", "ann", 9), ("knew", "dora", LAST)), 1)

    def test_one_that_a_bar_breaks(self):
        bars = [("unheard", "cleo", 6), ("silent", "bert", 5, 6), ("barred", "cleo", "bert"), ("unheard", "ann", None)]
        for bar in bars:
            sayings = [bar, ("knew", "cleo", 6)]
            self.assert_broken(sample(*sayings), 1)
            self.assert_broken(sample(*sayings[::-1]), 0)

    def test_a_bar_that_has_another_way_taken(self):
        talks = list(TALKS) + [(5, "ann", "bert", "one")]
        book = Book(list(PERSONS), list(SIGHTS), talks, [("silent", "ann", 4, 4), ("knew", "cleo", 6)])
        story = [("ann", 2, ("saw", 0)), ("bert", 5, ("heard", 3, "ann")), ("cleo", 6, ("heard", 1, "bert"))]
        self.assert_story(book, story)

    def test_a_person_said_to_have_known_and_not_heard(self):
        self.assert_broken(sample(("knew", "bert", 8), ("unheard", "bert", 8)), 0)
        self.assert_broken(sample(("knew", "bert", 9), ("unheard", "bert", None)), 0)
        story = [("ann", 2, ("saw", 0)), ("bert", 9, ("saw", 1))]
        self.assert_story(sample(("knew", "bert", 9), ("unheard", "bert", 8)), story)


if __name__ == "__main__":
    unittest.main()
