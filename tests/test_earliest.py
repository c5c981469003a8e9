"""The earliest hours and the earliest story [10]."""

import itertools
import unittest

from knewby.books import Book
from knewby.earliest import earliest, earliest_story
from knewby.stories import is_story, unfitted

LAST = 10 ** 18
TALE = ("fire",)


def names(count):
    return ["x" + "abcdefghijklmnopqrstuvwxyz"[k] for k in range(count)]


class Asking(unittest.TestCase):
    def assert_told(self, book, story):
        """The story is told, and the hours that it tells, None for those that aren't in it."""
        self.assertEqual(story, earliest_story(book))
        self.assertTrue(is_story(book, story))
        hours = {person: hour for person, hour, way in story}
        self.assertEqual([(person, hours.get(person)) for person in sorted(book.persons())], earliest(book))


class Chains(Asking):
    SIGHTS = [("ann", 1, TALE)]
    TALKS = [(2, "ann", "bert", "both"), (4, "bert", "cleo", "both"), (5, "cleo", "dora", "both")]

    def test_in_the_order_of_their_hours(self):
        self.assert_told(Book(["ann", "bert", "cleo", "dora"], self.SIGHTS, self.TALKS, []), [
            ("ann", 1, ("saw", 0)),
            ("bert", 2, ("heard", 0, "ann")),
            ("cleo", 4, ("heard", 1, "bert")),
            ("dora", 5, ("heard", 2, "cleo")),
        ])

    def test_the_order_in_which_talks_stand_is_nothing(self):
        for order in itertools.permutations(range(3)):
            talks = [self.TALKS[k] for k in order]
            with self.subTest(order=order):
                self.assert_told(Book(["ann", "bert", "cleo", "dora"], self.SIGHTS, talks, []), [
                    ("ann", 1, ("saw", 0)),
                    ("bert", 2, ("heard", order.index(0), "ann")),
                    ("cleo", 4, ("heard", order.index(1), "bert")),
                    ("dora", 5, ("heard", order.index(2), "cleo")),
                ])

    def test_hours_turned_about_carry_it_one_talk_far(self):
        talks = [(5, "ann", "bert", "both"), (4, "bert", "cleo", "both"), (2, "cleo", "dora", "both")]
        self.assert_told(Book(["ann", "bert", "cleo", "dora"], self.SIGHTS, talks, []), [
            ("ann", 1, ("saw", 0)),
            ("bert", 5, ("heard", 0, "ann")),
        ])

    def test_two_talks_at_the_same_hour(self):
        for talks in ([(4, "ann", "bert", "one"), (4, "bert", "cleo", "one")],
                      [(4, "bert", "cleo", "one"), (4, "ann", "bert", "one")]):
            story = [("ann", 1, ("saw", 0)), ("bert", 4, ("heard", talks.index((4, "ann", "bert", "one")), "ann"))]
            self.assert_told(Book(["ann", "bert", "cleo"], self.SIGHTS, talks, []), story)

    def test_two_talks_an_hour_from_one_another(self):
        talks = [(5, "bert", "cleo", "one"), (4, "ann", "bert", "one")]
        self.assert_told(Book(["ann", "bert", "cleo"], self.SIGHTS, talks, []), [
            ("ann", 1, ("saw", 0)),
            ("bert", 4, ("heard", 1, "ann")),
            ("cleo", 5, ("heard", 0, "bert")),
        ])

    def test_a_talk_at_the_hour_of_the_sight(self):
        self.assert_told(Book(["ann", "bert"], [("ann", 4, TALE)], [(4, "ann", "bert", "both")], []),
                         [("ann", 4, ("saw", 0))])
        self.assert_told(Book(["ann", "bert"], [("ann", 4, TALE)], [(3, "ann", "bert", "both")], []),
                         [("ann", 4, ("saw", 0))])
        self.assert_told(Book(["ann", "bert"], [("ann", 4, TALE)], [(5, "ann", "bert", "both")], []),
                         [("ann", 4, ("saw", 0)), ("bert", 5, ("heard", 0, "ann"))])

    def test_a_talk_of_one_carries_it_one_way(self):
        self.assert_told(Book(["ann", "bert"], self.SIGHTS, [(4, "bert", "ann", "one")], []), [("ann", 1, ("saw", 0))])
        self.assert_told(Book(["ann", "bert"], self.SIGHTS, [(4, "bert", "ann", "both")], []),
                         [("ann", 1, ("saw", 0)), ("bert", 4, ("heard", 0, "ann"))])

    def test_a_long_chain_in_any_order(self):
        persons = names(24)
        talks = [(k + 1, persons[k], persons[k + 1], "one") for k in range(23)]
        for ordered in (talks, talks[::-1]):
            book = Book(persons[::-1], [(persons[0], 0, TALE)], ordered, [])
            self.assertEqual([(persons[k], k) for k in range(24)], earliest(book))

    def test_a_shorter_chain_is_not_always_the_earlier_one(self):
        talks = [(9, "ann", "cleo", "one"), (3, "ann", "bert", "one"), (5, "bert", "cleo", "one")]
        self.assert_told(Book(["ann", "bert", "cleo"], self.SIGHTS, talks, []), [
            ("ann", 1, ("saw", 0)),
            ("bert", 3, ("heard", 1, "ann")),
            ("cleo", 5, ("heard", 2, "bert")),
        ])


class WhichWay(Asking):
    def test_one_that_sees_and_hears(self):
        talks = [(4, "ann", "bert", "one")]
        for hour, way in ((3, ("saw", 1)), (4, ("saw", 1)), (5, ("heard", 0, "ann"))):
            book = Book(["ann", "bert"], [("ann", 1, TALE), ("bert", hour, TALE)], talks, [])
            self.assert_told(book, [("ann", 1, ("saw", 0)), ("bert", min(hour, 4), way)])

    def test_of_several_sights_the_earliest(self):
        sights = [("ann", 5, TALE), ("ann", 3, TALE), ("ann", 4, TALE)]
        self.assert_told(Book(["ann"], sights, [], []), [("ann", 3, ("saw", 1))])

    def test_of_several_sights_at_that_hour_the_least_number(self):
        sights = [("bert", 3, TALE), ("ann", 5, TALE), ("ann", 3, ("b",)), ("ann", 3, ("a",))]
        self.assert_told(Book(["ann", "bert"], sights, [], []), [("ann", 3, ("saw", 2)), ("bert", 3, ("saw", 0))])

    def test_of_several_tellings_at_that_hour_the_first(self):
        sights = [("ann", 1, TALE), ("cleo", 2, TALE)]
        talks = [(4, "cleo", "bert", "one"), (4, "ann", "bert", "one")]
        for k, teller in ((0, "cleo"), (1, "ann")):
            told = talks[k:] + talks[:k]
            self.assert_told(Book(["ann", "bert", "cleo"], sights, told, []), [
                ("ann", 1, ("saw", 0)), ("bert", 4, ("heard", 0, teller)), ("cleo", 2, ("saw", 1)),
            ])

    def test_the_first_telling_not_the_earliest_teller_or_the_least_name(self):
        sights = [("ann", 1, TALE), ("zoe", 3, TALE)]
        talks = [(4, "bert", "zoe", "both"), (4, "bert", "ann", "both")]
        self.assert_told(Book(["ann", "bert", "zoe"], sights, talks, []), [
            ("ann", 1, ("saw", 0)), ("bert", 4, ("heard", 0, "zoe")), ("zoe", 3, ("saw", 1)),
        ])

    def test_a_telling_whose_teller_knows_too_late_is_passed_over(self):
        sights = [("ann", 1, TALE), ("cleo", 4, TALE), ("dora", 5, TALE)]
        talks = [(4, "eve", "bert", "one"), (4, "cleo", "bert", "one"), (4, "dora", "bert", "one"),
                 (4, "ann", "bert", "one")]
        self.assert_told(Book(["ann", "bert", "cleo", "dora", "eve"], sights, talks, []), [
            ("ann", 1, ("saw", 0)), ("bert", 4, ("heard", 3, "ann")), ("cleo", 4, ("saw", 1)), ("dora", 5, ("saw", 2)),
        ])

    def test_a_telling_at_a_later_hour_that_stands_first_is_passed_over(self):
        talks = [(5, "ann", "bert", "one"), (4, "ann", "bert", "one"), (4, "ann", "bert", "one")]
        self.assert_told(Book(["ann", "bert"], [("ann", 1, TALE)], talks, []),
                         [("ann", 1, ("saw", 0)), ("bert", 4, ("heard", 1, "ann"))])

    def test_closed_ones_are_passed_over(self):
        sights = [("ann", 1, TALE), ("ann", 3, TALE), ("cleo", 2, TALE)]
        talks = [(5, "cleo", "bert", "one"), (5, "ann", "bert", "one"), (6, "cleo", "bert", "one")]
        persons = ["ann", "bert", "cleo"]
        self.assert_told(Book(persons, sights, talks, [("unheard", "ann", 1), ("barred", "bert", "cleo")]), [
            ("ann", 3, ("saw", 1)), ("bert", 5, ("heard", 1, "ann")), ("cleo", 2, ("saw", 2)),
        ])
        self.assert_told(Book(persons, sights, talks, [("silent", "ann", 5, 5), ("silent", "cleo", 5, 5)]), [
            ("ann", 1, ("saw", 0)), ("bert", 6, ("heard", 2, "cleo")), ("cleo", 2, ("saw", 2)),
        ])
        self.assert_told(Book(persons, sights, talks, [("unheard", "bert", 5)]), [
            ("ann", 1, ("saw", 0)), ("bert", 6, ("heard", 2, "cleo")), ("cleo", 2, ("saw", 2)),
        ])
        self.assert_told(Book(persons, sights, talks, [("unheard", "ann", None), ("unheard", "cleo", None)]), [])

    def test_a_floor_makes_one_know_later_and_so_its_hearers(self):
        sights = [("ann", 1, TALE), ("ann", 6, TALE)]
        talks = [(5, "ann", "bert", "one"), (8, "ann", "bert", "one")]
        self.assertEqual([("ann", 1), ("bert", 5)], earliest(Book(["ann", "bert"], sights, talks, [])))
        book = Book(["ann", "bert"], sights, talks, [("unheard", "ann", 5)])
        self.assert_told(book, [("ann", 6, ("saw", 1)), ("bert", 8, ("heard", 1, "ann"))])


class Edges(Asking):
    def test_sorted_by_persons(self):
        book = Book(["zoe", "ann", "bert"], [("zoe", 3, TALE), ("bert", 5, TALE)], [], [])
        self.assertEqual([("ann", None), ("bert", 5), ("zoe", 3)], earliest(book))
        self.assertEqual([("bert", 5, ("saw", 1)), ("zoe", 3, ("saw", 0))], earliest_story(book))

    def test_one_that_nothing_comes_to(self):
        book = Book(["ann", "bert", "cleo", "dora"], [("ann", 1, TALE)],
                    [(4, "bert", "cleo", "both"), (5, "dora", "ann", "one")], [])
        self.assertEqual([("ann", 1), ("bert", None), ("cleo", None), ("dora", None)], earliest(book))
        self.assert_told(book, [("ann", 1, ("saw", 0))])

    def test_without_sights(self):
        self.assert_told(Book(["ann", "bert"], [], [(4, "ann", "bert", "both")] * 3, []), [])
        self.assertEqual([("ann", None), ("bert", None)], earliest(Book(["ann", "bert"], [], [], [])))

    def test_without_talks(self):
        self.assert_told(Book(["ann", "bert"], [("bert", 4, TALE)], [], []), [("bert", 4, ("saw", 0))])

    def test_the_least_book(self):
        self.assert_told(Book(["ann"], [], [], []), [])

    def test_the_first_and_the_last_hours(self):
        sights = [("ann", LAST - 2, TALE), ("dora", 0, TALE)]
        talks = [(LAST, "bert", "cleo", "one"), (LAST - 1, "ann", "bert", "one"), (LAST, "dora", "ann", "one"),
                 (0, "dora", "eve", "one")]
        self.assert_told(Book(["ann", "bert", "cleo", "dora", "eve"], sights, talks, []), [
            ("ann", LAST - 2, ("saw", 0)),
            ("bert", LAST - 1, ("heard", 1, "ann")),
            ("cleo", LAST, ("heard", 0, "bert")),
            ("dora", 0, ("saw", 1)),
        ])

    def test_knew_sayings_change_nothing(self):
        sights, talks = [("ann", 1, TALE)], [(4, "ann", "bert", "one")]
        plain = Book(["ann", "bert", "cleo"], sights, talks, [])
        sayings = [("knew", "ann", 0), ("knew", "bert", 9), ("knew", "cleo", 3)]
        said = Book(["ann", "bert", "cleo"], sights, talks, sayings)
        self.assertEqual(earliest(plain), earliest(said))
        self.assertEqual(earliest_story(plain), earliest_story(said))

    def test_what_the_earliest_story_does_not_fit(self):
        sayings = [("knew", "ann", 0), ("knew", "ann", 1), ("knew", "bert", 3), ("knew", "bert", 4),
                   ("knew", "cleo", LAST), ("unheard", "bert", 3), ("silent", "ann", 5, 9), ("barred", "cleo", "bert"),
                   ("unheard", "cleo", None)]
        talks = [(4, "ann", "bert", "one"), (6, "ann", "bert", "one"), (7, "bert", "cleo", "one")]
        book = Book(["ann", "bert", "cleo"], [("ann", 1, TALE)], talks, sayings)
        self.assert_told(book, [("ann", 1, ("saw", 0)), ("bert", 4, ("heard", 0, "ann"))])
        self.assertEqual([0, 2, 4], unfitted(book, earliest_story(book)))

    def test_as_many_of_all_as_may_be(self):
        persons = names(24)
        sights = [(persons[k], 500 - k, TALE) for k in range(24)]
        talks = [((k * 37) % 120, persons[k % 24], persons[(k + 1 + k // 24 * 3) % 24], "both") for k in range(120)]
        sayings = [("silent", persons[k % 24], k, k + 1) for k in range(30)]
        sayings += [("barred", persons[k], persons[23 - k]) for k in range(15)]
        sayings += [("unheard", persons[k], k) for k in range(15)]
        self.assertEqual([24, 24, 120, 60], [len(persons), len(sights), len(talks), len(sayings)])
        sights[23] = (persons[23], 0, TALE)
        book = Book(persons, sights, talks, sayings)
        story = earliest_story(book)
        hours = dict(earliest(book))
        self.assertTrue(is_story(book, story))
        self.assertEqual([], unfitted(book, story))
        self.assertEqual(hours, {person: hour for person, hour, way in story})
        self.assertEqual(by_rounds(book), hours)
        self.assertGreater(len([person for person in hours if hours[person] < 400]), 12)

    def test_lists_of_tuples_are_told(self):
        book = Book(["ann", "bert"], [("ann", 1, TALE)], [(4, "ann", "bert", "one")], [])
        for told in (earliest(book), earliest_story(book)):
            self.assertIs(list, type(told))
            self.assertEqual({tuple}, {type(one) for one in told})
        self.assertEqual({tuple}, {type(way) for person, hour, way in earliest_story(book)})


def by_rounds(book):
    """The earliest hours in a plainer way: each talk is walked again till no hour falls."""
    talks, sayings = book.talks(), book.sayings()
    hours = {person: None for person in book.persons()}

    def lower(person, hour):
        said = [saying[2] for saying in sayings if saying[:2] == ("unheard", person)]
        if None in said or hour <= max(said, default=-1):
            return False
        if hours[person] is None or hour < hours[person]:
            hours[person] = hour
            return True
        return False

    for person, hour, tale in book.sights():
        lower(person, hour)
    fell = True
    while fell:
        fell = False
        for k, teller, hearer in book.tellings():
            hour = talks[k][0]
            hushed = [1 for one in sayings if one[:2] == ("silent", teller) and one[2] <= hour <= one[3]]
            if hushed or ("barred", hearer, teller) in sayings:
                continue
            if hours[teller] is not None and hours[teller] < hour:
                fell = lower(hearer, hour) or fell
    return hours


if __name__ == "__main__":
    unittest.main()
