"""Floors, open sights and open tellings [7]."""

import itertools
import unittest

from knewby.bars import floor_of, open_sights, open_tellings
from knewby.books import Book

PERSONS = ["bert", "ann", "cleo"]
LAST = 10 ** 18


def saying_book(*sayings):
    return Book(list(PERSONS), [], [], list(sayings))


class Floors(unittest.TestCase):
    def test_no_unheard_saying(self):
        self.assertEqual(-1, floor_of(saying_book(), "ann"))

    def test_sayings_of_other_kinds_make_none(self):
        book = saying_book(("knew", "ann", 5), ("silent", "ann", 2, 8), ("barred", "ann", "bert"))
        self.assertEqual(-1, floor_of(book, "ann"))

    def test_sayings_of_other_persons_make_none(self):
        book = saying_book(("unheard", "bert", 5), ("unheard", "cleo", None))
        self.assertEqual(-1, floor_of(book, "ann"))

    def test_one(self):
        for hour in (0, 1, 7, LAST):
            with self.subTest(hour=hour):
                self.assertEqual(hour, floor_of(saying_book(("unheard", "ann", hour)), "ann"))

    def test_of_several_the_greatest_in_any_order(self):
        for hours in itertools.permutations([0, 4, 4, 9]):
            sayings = [("unheard", "ann", hour) for hour in hours]
            with self.subTest(hours=hours):
                self.assertEqual(9, floor_of(saying_book(*sayings), "ann"))

    def test_none_where_none_is_among_them_in_any_order(self):
        self.assertIsNone(floor_of(saying_book(("unheard", "ann", None)), "ann"))
        for hours in itertools.permutations([0, None, 9, LAST]):
            sayings = [("unheard", "ann", hour) for hour in hours]
            with self.subTest(hours=hours):
                self.assertIsNone(floor_of(saying_book(*sayings), "ann"))

    def test_each_person_has_its_own(self):
        book = saying_book(
            ("unheard", "ann", 3), ("unheard", "bert", 8), ("knew", "cleo", 9), ("unheard", "ann", 5),
            ("unheard", "bert", None),
        )
        self.assertEqual([None, 5, -1], [floor_of(book, person) for person in PERSONS])

    def test_whole_numbers_are_told(self):
        self.assertIs(int, type(floor_of(saying_book(), "ann")))
        self.assertIs(int, type(floor_of(saying_book(("unheard", "ann", 0)), "ann")))


class Sights(unittest.TestCase):
    def opened(self, hours, *sayings):
        return open_sights(Book(list(PERSONS), [("ann", hour, ("fire",)) for hour in hours], [], list(sayings)))

    def test_no_sights(self):
        self.assertEqual([], open_sights(saying_book(("unheard", "ann", 3))))

    def test_without_floor_all_are(self):
        self.assertEqual([0, 1, 2], self.opened([0, LAST, 5]))

    def test_below_at_and_above_the_floor(self):
        self.assertEqual([2], self.opened([4, 5, 6], ("unheard", "ann", 5)))

    def test_a_floor_of_nought(self):
        self.assertEqual([1], self.opened([0, 1], ("unheard", "ann", 0)))

    def test_a_floor_at_the_last_hour(self):
        self.assertEqual([], self.opened([0, LAST - 1, LAST], ("unheard", "ann", LAST)))
        self.assertEqual([2], self.opened([0, LAST - 1, LAST], ("unheard", "ann", LAST - 1)))

    def test_never_where_the_floor_is_none(self):
        self.assertEqual([], self.opened([0, 5, LAST], ("unheard", "ann", None)))
        self.assertEqual([], self.opened([0, 5, LAST], ("unheard", "ann", 2), ("unheard", "ann", None)))

    def test_sayings_of_other_kinds_close_none(self):
        sayings = [("knew", "ann", 9), ("silent", "ann", 0, LAST), ("barred", "ann", "bert"), ("barred", "bert", "ann")]
        self.assertEqual([0, 1], self.opened([5, 7], *sayings))

    def test_floors_of_others_close_none(self):
        self.assertEqual([0, 1], self.opened([5, 7], ("unheard", "bert", None), ("unheard", "cleo", 9)))

    def test_rising_numbers_whatever_the_hours_and_persons(self):
        sights = [
            ("cleo", 9, ("a",)), ("ann", 8, ("b",)), ("bert", 7, ("c",)), ("ann", 2, ("d",)), ("ann", 3, ("e",)),
            ("cleo", 1, ("f",)),
        ]
        book = Book(list(PERSONS), sights, [], [("unheard", "ann", 2), ("unheard", "bert", 9)])
        self.assertEqual([0, 1, 4, 5], open_sights(book))
        self.assertIs(list, type(open_sights(book)))


class Tellings(unittest.TestCase):
    def opened(self, talks, *sayings):
        return open_tellings(Book(list(PERSONS), [], list(talks), list(sayings)))

    def one_at(self, hour, *sayings):
        """Whether ann can tell bert at that hour."""
        return self.opened([(hour, "ann", "bert", "one")], *sayings) == [(0, "ann", "bert")]

    def test_no_talks(self):
        self.assertEqual([], self.opened([]))

    def test_without_sayings_all_in_their_order(self):
        talks = [(9, "cleo", "ann", "both"), (0, "ann", "bert", "one"), (LAST, "bert", "cleo", "both")]
        told = [(0, "cleo", "ann"), (0, "ann", "cleo"), (1, "ann", "bert"), (2, "bert", "cleo"), (2, "cleo", "bert")]
        self.assertEqual(told, self.opened(talks))
        self.assertEqual({tuple}, {type(one) for one in self.opened(talks)})

    def test_below_at_and_above_the_hearers_floor(self):
        said = ("unheard", "bert", 5)
        self.assertEqual([False, False, True], [self.one_at(hour, said) for hour in (4, 5, 6)])

    def test_hearers_floor_of_nought_and_at_the_last_hour(self):
        self.assertTrue(self.one_at(0))
        self.assertFalse(self.one_at(0, ("unheard", "bert", 0)))
        self.assertTrue(self.one_at(1, ("unheard", "bert", 0)))
        self.assertFalse(self.one_at(LAST, ("unheard", "bert", LAST)))
        self.assertTrue(self.one_at(LAST, ("unheard", "bert", LAST - 1)))

    def test_never_where_the_hearers_floor_is_none(self):
        for hour in (0, 5, LAST):
            self.assertFalse(self.one_at(hour, ("unheard", "bert", None)))

    def test_the_tellers_floor_closes_nothing(self):
        self.assertTrue(self.one_at(4, ("unheard", "ann", 5)))
        self.assertTrue(self.one_at(4, ("unheard", "ann", None)))

    def test_of_a_talk_both_ways_the_hearer_alone_is_closed(self):
        talks = [(4, "ann", "bert", "both")]
        self.assertEqual([(0, "bert", "ann")], self.opened(talks, ("unheard", "bert", 5)))
        self.assertEqual([(0, "ann", "bert")], self.opened(talks, ("unheard", "ann", 5)))

    def test_silent_at_begin_and_end_and_beside_them(self):
        said = ("silent", "ann", 5, 8)
        self.assertEqual(
            [True, False, False, False, False, True],
            [self.one_at(hour, said) for hour in (4, 5, 6, 7, 8, 9)],
        )

    def test_silent_for_one_hour(self):
        said = ("silent", "ann", 5, 5)
        self.assertEqual([True, False, True], [self.one_at(hour, said) for hour in (4, 5, 6)])

    def test_silent_at_the_first_and_the_last_hour(self):
        self.assertEqual([False, True], [self.one_at(hour, ("silent", "ann", 0, 0)) for hour in (0, 1)])
        said = ("silent", "ann", LAST, LAST)
        self.assertEqual([True, False], [self.one_at(hour, said) for hour in (LAST - 1, LAST)])

    def test_several_silent_sayings(self):
        said = [("silent", "ann", 7, 8), ("silent", "ann", 2, 3)]
        for sayings in (said, said[::-1]):
            self.assertEqual(
                [True, False, False, True, True, True, False, False, True],
                [self.one_at(hour, *sayings) for hour in range(1, 10)],
            )

    def test_a_silent_hearer_bars_nothing(self):
        self.assertTrue(self.one_at(5, ("silent", "bert", 0, LAST)))
        self.assertTrue(self.one_at(5, ("silent", "cleo", 0, LAST)))
        self.assertEqual([(0, "ann", "bert")], self.opened([(5, "ann", "bert", "both")], ("silent", "bert", 0, LAST)))
        self.assertEqual([(0, "bert", "ann")], self.opened([(5, "ann", "bert", "both")], ("silent", "ann", 0, LAST)))

    def test_the_teller_is_silent_as_the_second_named_too(self):
        talks = [(5, "bert", "ann", "both")]
        self.assertEqual([(0, "bert", "ann")], self.opened(talks, ("silent", "ann", 5, 5)))

    def test_barred_one_way_the_telling_back_is_open(self):
        talks = [(5, "ann", "bert", "both")]
        self.assertEqual([(0, "bert", "ann")], self.opened(talks, ("barred", "bert", "ann")))
        self.assertEqual([(0, "ann", "bert")], self.opened(talks, ("barred", "ann", "bert")))
        self.assertEqual([], self.opened(talks, ("barred", "ann", "bert"), ("barred", "bert", "ann")))

    def test_barred_at_every_hour(self):
        for hour in (0, 5, LAST):
            self.assertFalse(self.one_at(hour, ("barred", "bert", "ann")))

    def test_a_hearer_barred_from_another_one(self):
        self.assertTrue(self.one_at(5, ("barred", "bert", "cleo")))
        self.assertTrue(self.one_at(5, ("barred", "cleo", "ann")))

    def test_knew_closes_nothing(self):
        self.assertTrue(self.one_at(5, ("knew", "ann", 0), ("knew", "bert", 0), ("knew", "bert", 9)))

    def test_each_bar_by_itself_closes(self):
        bars = [("unheard", "bert", 5), ("silent", "ann", 5, 5), ("barred", "bert", "ann")]
        for count in (1, 2, 3):
            for sayings in itertools.combinations(bars, count):
                with self.subTest(sayings=sayings):
                    self.assertFalse(self.one_at(5, *sayings))

    def test_those_left_keep_their_order(self):
        talks = [(9, "cleo", "ann", "both"), (3, "ann", "bert", "both"), (6, "bert", "cleo", "both"),
                 (3, "bert", "ann", "one"), (1, "ann", "cleo", "one")]
        sayings = [("silent", "ann", 2, 4), ("unheard", "cleo", 1), ("barred", "ann", "cleo")]
        told = [(0, "ann", "cleo"), (1, "bert", "ann"), (2, "bert", "cleo"), (2, "cleo", "bert"), (3, "bert", "ann")]
        self.assertEqual(told, self.opened(talks, *sayings))


if __name__ == "__main__":
    unittest.main()
