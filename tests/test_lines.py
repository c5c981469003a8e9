"""What a line of telling to a person by an hour is [16]."""

import itertools
import random
import unittest

from knewby.books import Book
from knewby.lines import is_line
from tests.things import all_lines, busy_book

LAST = 10 ** 18
TALE = ("fire",)
PERSONS = ["dora", "ann", "cleo", "bert"]
SIGHTS = [("ann", 2, TALE), ("dora", 9, TALE)]
TALKS = [(4, "ann", "bert", "both"), (6, "bert", "cleo", "one"), (8, "cleo", "dora", "both")]
WHOLE = [(0, "ann", "bert"), (1, "bert", "cleo"), (2, "cleo", "dora")]


def sample(*sayings):
    return Book(list(PERSONS), list(SIGHTS), list(TALKS), list(sayings))


class Asking(unittest.TestCase):
    def assert_line(self, some, person, hour, book=None):
        with self.subTest(some=some, person=person, hour=hour):
            self.assertIs(is_line(book or sample(), some, person, hour), True)

    def assert_none(self, some, person, hour, book=None):
        with self.subTest(some=some, person=person, hour=hour):
            self.assertIs(is_line(book or sample(), some, person, hour), False)


class Lengths(Asking):
    def test_the_empty_list(self):
        for person in PERSONS:
            self.assert_none([], person, 9)
        # Not even for one that saw.
        self.assert_none([], "ann", LAST)

    def test_one_telling(self):
        self.assert_line(WHOLE[:1], "bert", 9)

    def test_two_and_three(self):
        self.assert_line(WHOLE[:2], "cleo", 9)
        self.assert_line(WHOLE, "dora", 9)

    def test_a_line_does_not_end_ahead_of_its_end(self):
        self.assert_none(WHOLE, "cleo", 9)
        self.assert_none(WHOLE, "bert", 9)
        self.assert_none(WHOLE, "ann", 9)

    def test_one_left_out_at_each_place(self):
        for k in range(3):
            self.assert_none(WHOLE[:k] + WHOLE[k + 1:], "dora", 9)

    def test_one_twice(self):
        for k in range(3):
            self.assert_none(WHOLE[:k] + WHOLE[k:k + 1] + WHOLE[k:], "dora", 9)
        self.assert_none(WHOLE + WHOLE, "dora", 9)

    def test_backwards(self):
        self.assert_none(WHOLE[::-1], "dora", 9)
        self.assert_none(WHOLE[::-1], "bert", 9)

    def test_a_long_line(self):
        talks = [(k + 1, ["ann", "bert"][k % 2], ["bert", "ann"][k % 2], "both") for k in range(120)]
        book = Book(["ann", "bert"], [("ann", 0, TALE)], talks, [])
        some = [(k, talk[1], talk[2]) for k, talk in enumerate(talks)]
        self.assert_line(some, "ann", 120, book)
        self.assert_none(some, "ann", 119, book)
        self.assert_line(some[:119], "bert", 119, book)
        self.assert_none(some[:50] + some[51:], "ann", 120, book)


class Firsts(Asking):
    TALK = [(4, "ann", "bert", "both")]
    TOLD = [(0, "ann", "bert")]

    def made(self, sights, sayings=()):
        return Book(["ann", "bert"], sights, list(self.TALK), list(sayings))

    def test_one_that_saw_earlier(self):
        self.assert_line(self.TOLD, "bert", 4, self.made([("ann", 3, TALE)]))
        self.assert_line(self.TOLD, "bert", 4, self.made([("ann", 0, TALE)]))

    def test_one_that_saw_at_the_talk_or_later(self):
        for hour in (4, 5, LAST):
            self.assert_none(self.TOLD, "bert", 4, self.made([("ann", hour, TALE)]))
            self.assert_none(self.TOLD, "bert", LAST, self.made([("ann", hour, TALE)]))

    def test_one_that_did_not_see(self):
        self.assert_none(self.TOLD, "bert", 4, self.made([]))
        self.assert_none(self.TOLD, "bert", 4, self.made([("bert", 0, TALE)]))

    def test_of_several_sights_one_is_enough(self):
        for hours in ((9, 3), (3, 9), (4, 3, 9)):
            self.assert_line(self.TOLD, "bert", 4, self.made([("ann", hour, TALE) for hour in hours]))
        self.assert_none(self.TOLD, "bert", 4, self.made([("ann", 9, TALE), ("ann", 4, TALE)]))

    def test_a_sight_that_is_not_open(self):
        for hour in (3, None):
            self.assert_none(self.TOLD, "bert", 4, self.made([("ann", 3, TALE)], [("unheard", "ann", hour)]))
        self.assert_line(self.TOLD, "bert", 4, self.made([("ann", 3, TALE)], [("unheard", "ann", 2)]))

    def test_of_several_sights_an_open_one(self):
        sights = [("ann", 1, TALE), ("ann", 3, TALE)]
        self.assert_line(self.TOLD, "bert", 4, self.made(sights, [("unheard", "ann", 1)]))
        self.assert_line(self.TOLD, "bert", 4, self.made(sights, [("unheard", "ann", 2)]))
        self.assert_none(self.TOLD, "bert", 4, self.made(sights, [("unheard", "ann", 3)]))
        self.assert_none(self.TOLD, "bert", 4, self.made([("ann", 1, TALE), ("ann", 5, TALE)], [("unheard", "ann", 1)]))

    def test_one_that_heard_begins_no_line(self):
        self.assert_none(WHOLE[1:], "dora", 9)
        self.assert_none(WHOLE[1:2], "cleo", 9)

    def test_one_in_the_midst_that_saw_later_than_its_talk(self):
        # The line holds by its own tellings; what else its tellers saw is nothing to it.
        book = Book(["ann", "bert", "cleo"], [("ann", 1, TALE), ("bert", 9, TALE)], TALKS[:2], [])
        self.assert_line(WHOLE[:2], "cleo", 9, book)
        self.assert_none(WHOLE[1:2], "cleo", 9, book)

    def test_a_hearer_that_saw_too(self):
        book = Book(["ann", "bert"], [("ann", 1, TALE), ("bert", 2, TALE)], TALKS[:1], [])
        self.assert_line([(0, "ann", "bert")], "bert", 9, book)
        self.assert_line([(0, "bert", "ann")], "ann", 9, book)

    def test_a_talk_at_nought(self):
        book = Book(["ann", "bert"], [("ann", 0, TALE)], [(0, "ann", "bert", "both"), (1, "ann", "bert", "both")], [])
        self.assert_none([(0, "ann", "bert")], "bert", 9, book)
        self.assert_line([(1, "ann", "bert")], "bert", 9, book)


class Nexts(Asking):
    def test_one_that_is_not_the_hearer_ahead(self):
        sights = [("ann", 1, TALE), ("cleo", 1, TALE)]
        talks = [(4, "ann", "bert", "both"), (6, "cleo", "dora", "one"), (7, "ann", "dora", "one")]
        book = Book(list(PERSONS), sights, talks, [])
        self.assert_none([(0, "ann", "bert"), (1, "cleo", "dora")], "dora", 9, book)
        # The teller ahead is none either.
        self.assert_none([(0, "ann", "bert"), (2, "ann", "dora")], "dora", 9, book)
        self.assert_line([(1, "cleo", "dora")], "dora", 9, book)
        self.assert_line([(2, "ann", "dora")], "dora", 9, book)

    def test_the_same_hour_an_earlier_and_a_later_one(self):
        for hour, later in ((3, False), (4, False), (5, True)):
            for talks in ([(4, "ann", "bert", "one"), (hour, "bert", "cleo", "one")],):
                book = Book(["ann", "bert", "cleo"], [("ann", 1, TALE)], talks, [])
                self.assertIs(is_line(book, WHOLE[:2], "cleo", 9), later)
                turned = Book(["ann", "bert", "cleo"], [("ann", 1, TALE)], talks[::-1], [])
                self.assertIs(is_line(turned, [(1, "ann", "bert"), (0, "bert", "cleo")], "cleo", 9), later)

    def test_each_next_one_is_looked_at(self):
        talks = [(2, "ann", "bert", "one"), (3, "bert", "cleo", "one"), (4, "cleo", "dora", "one")]
        for k in (1, 2):
            for hour in (1, talks[k - 1][0]):
                changed = talks[:k] + [(hour,) + talks[k][1:]] + talks[k + 1:]
                book = Book(list(PERSONS), [("ann", 0, TALE), ("bert", 0, TALE)], changed, [])
                self.assert_none(WHOLE, "dora", 9, book)
        self.assert_line(WHOLE, "dora", 9, Book(list(PERSONS), [("ann", 0, TALE)], talks, []))

    def test_the_same_talk_back(self):
        self.assert_none([(0, "ann", "bert"), (0, "bert", "ann")], "ann", 9)

    def test_a_line_that_passes_a_person_twice(self):
        talks = [(2, "ann", "bert", "both"), (3, "bert", "ann", "both"), (4, "ann", "bert", "both"),
                 (5, "bert", "cleo", "both"), (6, "cleo", "bert", "both")]
        book = Book(["ann", "bert", "cleo"], [("ann", 1, TALE)], talks, [])
        some = [(0, "ann", "bert"), (1, "bert", "ann"), (2, "ann", "bert"), (3, "bert", "cleo"), (4, "cleo", "bert")]
        for count, person in ((1, "bert"), (2, "ann"), (3, "bert"), (4, "cleo"), (5, "bert")):
            self.assert_line(some[:count], person, 9, book)

    def test_a_line_that_passes_the_person_itself(self):
        talks = [(2, "ann", "bert", "both"), (3, "bert", "cleo", "both"), (4, "cleo", "bert", "both")]
        book = Book(["ann", "bert", "cleo"], [("ann", 1, TALE), ("bert", 9, TALE)], talks, [])
        self.assert_line([(0, "ann", "bert"), (1, "bert", "cleo"), (2, "cleo", "bert")], "bert", 4, book)
        self.assert_none([(0, "ann", "bert"), (1, "bert", "cleo"), (2, "cleo", "bert")], "bert", 3, book)


class Lasts(Asking):
    def test_another_person(self):
        for person in ("ann", "cleo", "dora"):
            self.assert_none(WHOLE[:1], person, 9)

    def test_the_hour_itself_before_and_behind(self):
        for count, person, hour in ((1, "bert", 4), (2, "cleo", 6), (3, "dora", 8)):
            self.assert_line(WHOLE[:count], person, hour)
            self.assert_line(WHOLE[:count], person, hour + 1)
            self.assert_line(WHOLE[:count], person, LAST)
            self.assert_none(WHOLE[:count], person, hour - 1)
            self.assert_none(WHOLE[:count], person, 0)

    def test_the_last_hours(self):
        talks = [(LAST - 1, "ann", "bert", "one"), (LAST, "bert", "cleo", "one")]
        book = Book(["ann", "bert", "cleo"], [("ann", LAST - 2, TALE)], talks, [])
        self.assert_line(WHOLE[:2], "cleo", LAST, book)
        self.assert_none(WHOLE[:2], "cleo", LAST - 1, book)
        self.assert_line(WHOLE[:1], "bert", LAST - 1, book)

    def test_where_the_person_saw_a_line_is_still_one(self):
        book = Book(["ann", "bert"], [("ann", 1, TALE), ("bert", 0, TALE)], TALKS[:1], [])
        self.assert_line(WHOLE[:1], "bert", 4, book)


class Tellings(Asking):
    def test_numbers_that_no_talk_has(self):
        for k in (-1, -2, -3, 1, 2, 3, 99, 10 ** 20):
            self.assert_none([(k, "ann", "bert")], "bert", LAST)
        book = Book(["ann", "bert"], [("ann", 1, TALE)], [(4, "ann", "bert", "both")], [])
        for k in (-1, 1):
            self.assert_none([(k, "ann", "bert")], "bert", LAST, book)
            self.assert_none([(0, "ann", "bert"), (k, "bert", "ann")], "ann", LAST, book)

    def test_without_talks(self):
        book = Book(["ann", "bert"], [("ann", 1, TALE)], [], [])
        self.assert_none([(0, "ann", "bert")], "bert", LAST, book)
        self.assert_none([(-1, "ann", "bert")], "bert", LAST, book)

    def test_persons_that_the_talk_does_not_have(self):
        for telling in ((0, "ann", "cleo"), (0, "dora", "bert"), (0, "ann", "ann"), (0, "zoe", "bert"),
                        (0, "ann", "zoe"), (0, "", ""), (0, "both", "one")):
            self.assert_none([telling], telling[2], LAST)

    def test_against_the_way_of_a_talk_of_one(self):
        sights = [("bert", 1, TALE)]
        for way, told in (("one", False), ("both", True)):
            book = Book(["ann", "bert"], sights, [(4, "ann", "bert", way)], [])
            self.assertIs(is_line(book, [(0, "bert", "ann")], "ann", 9), told)

    def test_tellings_that_are_not_open(self):
        self.assert_line(WHOLE[:2], "cleo", 9)
        for bar in (("unheard", "cleo", 6), ("unheard", "cleo", None), ("silent", "bert", 6, 6),
                    ("silent", "bert", 0, LAST), ("barred", "cleo", "bert"), ("unheard", "bert", 4),
                    ("silent", "ann", 3, 5), ("barred", "bert", "ann")):
            self.assert_none(WHOLE[:2], "cleo", 9, sample(bar))
        for bar in (("unheard", "cleo", 5), ("silent", "bert", 7, 9), ("silent", "bert", 0, 5),
                    ("barred", "bert", "cleo"), ("silent", "cleo", 0, 9), ("unheard", "dora", None),
                    ("unheard", "ann", 1), ("knew", "cleo", 0)):
            self.assert_line(WHOLE[:2], "cleo", 9, sample(bar))

    def test_a_book_that_no_story_fits_has_lines_too(self):
        self.assert_line(WHOLE, "dora", 8, sample(("knew", "dora", 1)))

    def test_lists_handed_in_stay(self):
        for some in (list(WHOLE), WHOLE[::-1], WHOLE + WHOLE, []):
            kept = list(some)
            is_line(sample(), some, "dora", 9)
            self.assertEqual(kept, some)


class Small(Asking):
    def near(self, lines, tellings):
        """Each list of two at most, and each line with one telling changed, left out or put in."""
        found = [list(some) for length in (0, 1, 2) for some in itertools.product(tellings, repeat=length)]
        for line in lines:
            for k in range(len(line)):
                found.append(line[:k] + line[k + 1:])
                found += [line[:k] + [telling] + line[k + 1:] for telling in tellings]
                found += [line[:k] + [telling] + line[k:] for telling in tellings]
        return found

    def test_lists_that_are_lines_and_others(self):
        chance = random.Random(19)
        lengths = []
        for k in range(60):
            book = busy_book(chance, 3, 8, 8)
            tellings = book.tellings() + [(k, hearer, teller) for k, teller, hearer in book.tellings()]
            tellings += [(-1, "ann", "dora"), (len(book.talks()), "dora", "cleo"), (0, "cleo", "cleo")]
            for person in book.persons():
                hour = chance.randrange(2, 9)
                lines = all_lines(book, person, hour)
                lengths += [len(line) for line in lines]
                for some in lines + self.near(lines, sorted(set(tellings))):
                    self.assertIs(some in lines, is_line(book, some, person, hour), (some, person, hour))
        self.assertGreater(lengths.count(1), 30)
        self.assertGreater(lengths.count(2), 30)
        self.assertGreater(lengths.count(3), 5)


if __name__ == "__main__":
    unittest.main()
