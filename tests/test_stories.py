"""What a story is [8], and which sayings it fits [9]."""

import unittest

from knewby.books import Book
from knewby.stories import is_story, unfitted

PERSONS = ["cleo", "ann", "dora", "bert"]
LAST = 10 ** 18
SIGHTS = [("bert", 3, ("fire",)), ("ann", 2, ("fire",)), ("ann", 7, ("smoke", "mill"))]
TALKS = [
    (4, "ann", "bert", "both"),
    (6, "bert", "cleo", "one"),
    (6, "cleo", "dora", "both"),
    (9, "dora", "ann", "one"),
    (2, "ann", "dora", "both"),
]
ANN_SAW = ("ann", 2, ("saw", 1))
BERT_SAW = ("bert", 3, ("saw", 0))
BERT_HEARD = ("bert", 4, ("heard", 0, "ann"))
CLEO_HEARD = ("cleo", 6, ("heard", 1, "bert"))


def sample(*sayings):
    return Book(list(PERSONS), list(SIGHTS), list(TALKS), list(sayings))


class Stories(unittest.TestCase):
    def assert_story(self, some, book=None):
        with self.subTest(some=some):
            self.assertIs(is_story(book or sample(), some), True)

    def assert_none(self, some, book=None):
        with self.subTest(some=some):
            self.assertIs(is_story(book or sample(), some), False)

    def test_the_empty_list(self):
        self.assert_story([])
        self.assert_story([], Book(["ann"], [], [], []))

    def test_sights_alone(self):
        self.assert_story([ANN_SAW])
        self.assert_story([BERT_SAW])
        self.assert_story([("ann", 7, ("saw", 2))])
        self.assert_story([ANN_SAW, BERT_SAW])

    def test_tellings(self):
        self.assert_story([ANN_SAW, BERT_HEARD])
        self.assert_story([ANN_SAW, BERT_HEARD, CLEO_HEARD])
        self.assert_story([("ann", 4, ("heard", 0, "bert")), BERT_SAW, CLEO_HEARD])

    def test_a_story_needs_no_open_sights_and_tellings(self):
        sayings = [("unheard", "ann", None), ("unheard", "bert", 9), ("silent", "bert", 0, LAST), ("knew", "dora", 0),
                   ("barred", "bert", "ann"), ("barred", "cleo", "bert")]
        self.assert_story([ANN_SAW, BERT_HEARD, CLEO_HEARD], sample(*sayings))

    def test_the_teller_at_the_same_hour(self):
        self.assert_none([ANN_SAW, ("dora", 2, ("heard", 4, "ann"))])
        self.assert_none([ANN_SAW, BERT_HEARD, CLEO_HEARD, ("dora", 6, ("heard", 2, "cleo"))])

    def test_the_teller_an_hour_earlier(self):
        book = Book(["ann", "bert"], [("ann", 3, ("x",))], [(4, "ann", "bert", "one")], [])
        self.assert_story([("ann", 3, ("saw", 0)), ("bert", 4, ("heard", 0, "ann"))], book)

    def test_the_teller_later(self):
        self.assert_none([("ann", 7, ("saw", 2)), BERT_HEARD])
        self.assert_none([("ann", 7, ("saw", 2)), ("dora", 2, ("heard", 4, "ann"))])

    def test_the_teller_not_in_the_list(self):
        self.assert_none([BERT_HEARD])
        self.assert_none([CLEO_HEARD])
        self.assert_none([ANN_SAW, CLEO_HEARD])

    def test_two_that_heard_from_one_another(self):
        self.assert_none([("ann", 4, ("heard", 0, "bert")), ("bert", 4, ("heard", 0, "ann"))])
        talks = [(4, "ann", "bert", "both"), (5, "ann", "bert", "both")]
        book = Book(["ann", "bert"], [], talks, [])
        self.assert_none([("ann", 4, ("heard", 0, "bert")), ("bert", 5, ("heard", 1, "ann"))], book)

    def test_a_teller_whose_own_way_is_wrong(self):
        self.assert_none([("ann", 1, ("saw", 1)), BERT_HEARD])
        self.assert_none([("ann", 2, ("saw", 0)), BERT_HEARD])

    def test_unsorted(self):
        self.assert_none([BERT_SAW, ANN_SAW])
        self.assert_none([BERT_HEARD, ANN_SAW])
        self.assert_none([ANN_SAW, CLEO_HEARD, BERT_HEARD])

    def test_sorted_by_persons_not_as_the_book_has_them(self):
        self.assert_none([CLEO_HEARD, ANN_SAW, BERT_HEARD])
        self.assert_story([ANN_SAW, BERT_HEARD, CLEO_HEARD])

    def test_a_person_twice(self):
        self.assert_none([ANN_SAW, ANN_SAW])
        self.assert_none([ANN_SAW, ("ann", 7, ("saw", 2))])
        self.assert_none([ANN_SAW, BERT_SAW, BERT_HEARD])

    def test_texts_that_are_no_person(self):
        for text in ("eve", "", "Ann", "an", "zed", "saw", "a" * 13, "\u00e4nn"):
            self.assert_none([(text, 2, ("saw", 1))])
            self.assert_none([(text, 4, ("heard", 0, "ann"))])
            self.assert_none(sorted([ANN_SAW, (text, 4, ("heard", 0, "ann"))]))

    def test_tellers_that_are_no_person(self):
        for text in ("eve", "", "Ann", "an", "zed"):
            self.assert_none([ANN_SAW, ("bert", 4, ("heard", 0, text))])
            self.assert_none(sorted([ANN_SAW, (text, 2, ("saw", 1)), ("bert", 4, ("heard", 0, text))]))

    def test_an_hour_that_is_not_the_sights(self):
        for hour in (-1, 0, 1, 3, 7, LAST, LAST + 1):
            self.assert_none([("ann", hour, ("saw", 1))])
        for hour in (2, 6, 8):
            self.assert_none([("ann", hour, ("saw", 2))])

    def test_an_hour_that_is_not_the_talks(self):
        for hour in (-1, 0, 3, 5, 6, LAST, LAST + 1):
            self.assert_none([ANN_SAW, ("bert", hour, ("heard", 0, "ann"))])

    def test_numbers_of_sights_that_are_none(self):
        for number in (-4, -3, -2, -1, 3, 4, 24, LAST, -LAST):
            self.assert_none([("ann", 7, ("saw", number))])
            self.assert_none([("ann", 2, ("saw", number))])
            self.assert_none([("bert", 3, ("saw", number))])

    def test_numbers_of_talks_that_are_none(self):
        for number in (-6, -5, -4, -1, 5, 6, 120, LAST, -LAST):
            self.assert_none([ANN_SAW, ("bert", 4, ("heard", number, "ann"))])
        # At the last talk, counted from the end, dora hears: so -1 would be a good number but for its sign.
        book = Book(["ann", "dora"], [("ann", 2, ("x",))], [(3, "ann", "dora", "both")], [])
        self.assert_story([("ann", 2, ("saw", 0)), ("dora", 3, ("heard", 0, "ann"))], book)
        self.assert_none([("ann", 2, ("saw", 0)), ("dora", 3, ("heard", -1, "ann"))], book)
        self.assert_none([("ann", 2, ("saw", -1)), ("dora", 3, ("heard", 0, "ann"))], book)

    def test_a_book_without_sights_and_talks(self):
        book = Book(["ann", "bert"], [], [], [])
        for number in (-1, 0, 1):
            self.assert_none([("ann", 2, ("saw", number))], book)
            self.assert_none([("ann", 2, ("heard", number, "bert"))], book)

    def test_against_the_way_of_a_talk_of_one(self):
        book = Book(["ann", "bert"], [("ann", 2, ("x",)), ("bert", 2, ("x",))], [(4, "bert", "ann", "one")], [])
        self.assert_story([("ann", 4, ("heard", 0, "bert")), ("bert", 2, ("saw", 1))], book)
        self.assert_none([("ann", 2, ("saw", 0)), ("bert", 4, ("heard", 0, "ann"))], book)

    def test_both_ways_of_a_talk_of_both(self):
        book = Book(["ann", "bert"], [("ann", 2, ("x",)), ("bert", 2, ("x",))], [(4, "bert", "ann", "both")], [])
        self.assert_story([("ann", 4, ("heard", 0, "bert")), ("bert", 2, ("saw", 1))], book)
        self.assert_story([("ann", 2, ("saw", 0)), ("bert", 4, ("heard", 0, "ann"))], book)

    def test_a_sight_of_another_person(self):
        sights = [("ann", 2, ("x",)), ("bert", 2, ("x",))]
        book = Book(["ann", "bert"], sights, [], [])
        self.assert_story([("ann", 2, ("saw", 0)), ("bert", 2, ("saw", 1))], book)
        self.assert_none([("ann", 2, ("saw", 1))], book)
        self.assert_none([("bert", 2, ("saw", 0))], book)

    def test_a_teller_or_hearer_that_is_not_of_the_talk(self):
        self.assert_none([ANN_SAW, ("cleo", 6, ("heard", 1, "ann"))])
        self.assert_none([ANN_SAW, ("cleo", 4, ("heard", 0, "ann"))])
        self.assert_none([ANN_SAW, BERT_SAW, ("dora", 6, ("heard", 1, "bert"))])

    def test_one_that_heard_from_itself(self):
        self.assert_none([("bert", 4, ("heard", 0, "bert"))])

    def test_other_ways(self):
        for way in (("saw", 1, "ann"), ("knew", 1), ("", 1), ("Saw", 1), ("heard", 1), ("one", 1, "ann")):
            self.assert_none([("ann", 2, way)])
        for way in (("heard", 0), ("heard", 0, "ann", "bert"), ("saw", 0, "ann"), ("told", 0, "ann"), ("", 0, "ann")):
            self.assert_none([ANN_SAW, ("bert", 4, way)])

    def test_of_several_alike_each_number_is_good(self):
        talks = [(4, "ann", "bert", "one"), (4, "bert", "ann", "both")]
        book = Book(["ann", "bert"], [("ann", 2, ("x",)), ("ann", 2, ("x",))], talks, [])
        for i in (0, 1):
            for k in (0, 1):
                self.assert_story([("ann", 2, ("saw", i)), ("bert", 4, ("heard", k, "ann"))], book)

    def test_one_wrong_entry_at_any_place_spoils_it(self):
        good = [ANN_SAW, BERT_HEARD, CLEO_HEARD]
        self.assert_story(good)
        for place in range(3):
            person, hour, way = good[place]
            self.assert_none(good[:place] + [(person, hour + 1, way)] + good[place + 1:])
            self.assert_none(good[:place] + [(person, hour - 1, way)] + good[place + 1:])

    def test_first_and_last_hours(self):
        book = Book(["ann", "bert"], [("ann", 0, ("x",))], [(LAST, "ann", "bert", "one")], [])
        self.assert_story([("ann", 0, ("saw", 0)), ("bert", LAST, ("heard", 0, "ann"))], book)
        self.assert_none([("ann", 0, ("saw", 0)), ("bert", LAST - 1, ("heard", 0, "ann"))], book)
        self.assert_none([("ann", 0, ("saw", 0)), ("bert", LAST + 1, ("heard", 0, "ann"))], book)


class Fitting(unittest.TestCase):
    """Ann saw at 2, bert heard from her at 4, cleo from him at 6; dora isn't in it."""

    STORY = [ANN_SAW, BERT_HEARD, CLEO_HEARD]

    def assert_fits(self, saying, story=None):
        with self.subTest(saying=saying, story=story):
            self.assertEqual([], unfitted(sample(saying), list(self.STORY) if story is None else story))

    def assert_unfitted(self, saying, story=None):
        with self.subTest(saying=saying, story=story):
            self.assertEqual([0], unfitted(sample(saying), list(self.STORY) if story is None else story))

    def test_knew(self):
        for person, hour in (("ann", 2), ("bert", 4), ("cleo", 6)):
            self.assert_fits(("knew", person, hour))
            self.assert_fits(("knew", person, hour + 1))
            self.assert_fits(("knew", person, LAST))
            self.assert_unfitted(("knew", person, hour - 1))
            self.assert_unfitted(("knew", person, 0))

    def test_knew_of_one_that_is_not_in_it(self):
        self.assert_unfitted(("knew", "dora", 0))
        self.assert_unfitted(("knew", "dora", LAST))

    def test_unheard(self):
        for person, hour in (("ann", 2), ("bert", 4), ("cleo", 6)):
            self.assert_unfitted(("unheard", person, hour))
            self.assert_unfitted(("unheard", person, hour + 1))
            self.assert_unfitted(("unheard", person, LAST))
            self.assert_unfitted(("unheard", person, None))
            self.assert_fits(("unheard", person, hour - 1))
            self.assert_fits(("unheard", person, 0))

    def test_unheard_of_one_that_is_not_in_it(self):
        for hour in (0, 6, LAST, None):
            self.assert_fits(("unheard", "dora", hour))

    def test_silent(self):
        for begin, end in ((4, 4), (4, 9), (0, 4), (0, LAST), (3, 5)):
            self.assert_unfitted(("silent", "ann", begin, end))
        for begin, end in ((0, 3), (3, 3), (5, 5), (5, LAST), (0, 0), (LAST, LAST)):
            self.assert_fits(("silent", "ann", begin, end))

    def test_silent_is_of_tellers_not_of_those_that_hear_or_see(self):
        self.assert_fits(("silent", "ann", 2, 2))
        self.assert_fits(("silent", "bert", 4, 4))
        self.assert_fits(("silent", "bert", 0, 5))
        self.assert_unfitted(("silent", "bert", 0, 6))
        self.assert_fits(("silent", "cleo", 0, LAST))

    def test_silent_of_one_that_is_not_in_it(self):
        self.assert_fits(("silent", "dora", 0, LAST))

    def test_silent_with_several_hearers(self):
        book = Book(["ann", "bert", "cleo"], [("ann", 1, ("x",))],
                    [(3, "ann", "bert", "one"), (5, "ann", "cleo", "one")],
                    [("silent", "ann", 3, 3), ("silent", "ann", 4, 4), ("silent", "ann", 5, 5), ("silent", "ann", 6, 9),
                     ("silent", "ann", 0, 2)])
        story = [("ann", 1, ("saw", 0)), ("bert", 3, ("heard", 0, "ann")), ("cleo", 5, ("heard", 1, "ann"))]
        self.assertEqual([0, 2], unfitted(book, story))

    def test_a_talk_that_nobody_heard_at_breaks_no_silence(self):
        # Ann and bert talk at 4, but here both saw it themselves.
        self.assert_fits(("silent", "ann", 4, 4), [ANN_SAW, BERT_SAW])
        self.assert_fits(("barred", "bert", "ann"), [ANN_SAW, BERT_SAW])

    def test_barred(self):
        self.assert_unfitted(("barred", "bert", "ann"))
        self.assert_unfitted(("barred", "cleo", "bert"))
        self.assert_fits(("barred", "ann", "bert"))
        self.assert_fits(("barred", "bert", "cleo"))
        self.assert_fits(("barred", "bert", "dora"))
        self.assert_fits(("barred", "cleo", "ann"))

    def test_barred_of_one_that_is_not_in_it(self):
        self.assert_fits(("barred", "dora", "ann"))
        self.assert_fits(("barred", "dora", "cleo"))
        self.assert_fits(("barred", "ann", "dora"))

    def test_the_empty_story(self):
        for person in PERSONS:
            self.assert_unfitted(("knew", person, LAST), [])
            self.assert_fits(("unheard", person, 0), [])
            self.assert_fits(("unheard", person, None), [])
            self.assert_fits(("silent", person, 0, LAST), [])
        self.assert_fits(("barred", "ann", "bert"), [])

    def test_no_sayings(self):
        self.assertEqual([], unfitted(sample(), list(self.STORY)))
        self.assertEqual([], unfitted(sample(), []))

    def test_all_that_are_not_fitted_rising(self):
        sayings = [
            ("unheard", "cleo", None),
            ("knew", "ann", 2),
            ("barred", "bert", "ann"),
            ("silent", "bert", 6, 6),
            ("silent", "ann", 5, 9),
            ("knew", "dora", 9),
            ("unheard", "dora", None),
            ("knew", "dora", 9),
        ]
        self.assertEqual([0, 2, 3, 5, 7], unfitted(sample(*sayings), list(self.STORY)))
        self.assertEqual([0, 2, 4, 5, 7], unfitted(sample(*sayings[::-1]), list(self.STORY)))
        self.assertEqual([1, 5, 7], unfitted(sample(*sayings), []))
        self.assertIs(list, type(unfitted(sample(), [])))

    def test_sixty_sayings(self):
        sayings = [("knew", "ann", hour % 4) for hour in range(60)]
        self.assertEqual([k for k in range(60) if k % 4 < 2], unfitted(sample(*sayings), list(self.STORY)))


if __name__ == "__main__":
    unittest.main()
