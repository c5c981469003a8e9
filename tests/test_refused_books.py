"""What [4] lets by as a book, and what it refuses, with the part."""

import unittest

from knewby.books import Book
from knewby.errors import NoBook
from tests.things import (
    EqualToAll, EqualToAllUnhashed, no_hours, no_hours_or_none, no_lists, no_texts, no_tuples, wrong_names,
)

PERSONS = ["ann", "bert", "cleo"]
SIGHT = ("ann", 3, ("fire", "mill"))
TALK = (4, "ann", "bert", "both")
SAYING = ("knew", "bert", 5)


def names(count):
    return ["x" + "abcdefghijklmnopqrstuvwxyz"[k] for k in range(count)]


class Parts(unittest.TestCase):
    def assert_let_by(self, persons=None, sights=None, talks=None, sayings=None):
        persons = list(PERSONS) if persons is None else persons
        sights, talks, sayings = sights or [], talks or [], sayings or []
        book = Book(persons, sights, talks, sayings)
        self.assertEqual(
            [persons, sights, talks, sayings], [book.persons(), book.sights(), book.talks(), book.sayings()]
        )

    def assert_refused(self, part, persons, sights, talks, sayings):
        with self.assertRaises(NoBook) as taken:
            Book(persons, sights, talks, sayings)
        self.assertEqual(part, taken.exception.part)

    def refuse_sight(self, one):
        with self.subTest(one=one):
            self.assert_refused("sights", list(PERSONS), [one], [], [])
            self.assert_refused("sights", list(PERSONS), [SIGHT, one, SIGHT], [TALK], [SAYING])
            self.assert_refused("sights", list(PERSONS), [SIGHT, SIGHT, one], [TALK], [SAYING])

    def refuse_talk(self, one):
        with self.subTest(one=one):
            self.assert_refused("talks", list(PERSONS), [], [one], [])
            self.assert_refused("talks", list(PERSONS), [SIGHT], [TALK, one, TALK], [SAYING])
            self.assert_refused("talks", list(PERSONS), [SIGHT], [TALK, TALK, one], [SAYING])

    def refuse_saying(self, one):
        with self.subTest(one=one):
            self.assert_refused("sayings", list(PERSONS), [], [], [one])
            self.assert_refused("sayings", list(PERSONS), [SIGHT], [TALK], [SAYING, one, SAYING])
            self.assert_refused("sayings", list(PERSONS), [SIGHT], [TALK], [SAYING, SAYING, one])


class Persons(Parts):
    def test_one_to_twenty_four(self):
        for count in (1, 2, 23, 24):
            with self.subTest(count=count):
                self.assert_let_by(persons=names(count))

    def test_none_and_too_many(self):
        for count in (0, 25, 26):
            with self.subTest(count=count):
                self.assert_refused("persons", names(count), [], [], [])

    def test_in_any_order(self):
        self.assert_let_by(persons=["cleo", "ann", "bert"])

    def test_one_twice(self):
        for persons in (["ann", "ann"], ["ann", "bert", "ann"], ["bert", "ann", "ann"], names(23) + ["xa"]):
            with self.subTest(persons=persons):
                self.assert_refused("persons", persons, [], [], [])

    def test_names_of_any_length(self):
        self.assert_let_by(persons=["a", "b", "x" * 12, "y" * 12])

    def test_wrong_names(self):
        for name in wrong_names():
            for persons in ([name], [name, "ann"], ["ann", name, "bert"], ["ann", name]):
                with self.subTest(persons=persons):
                    self.assert_refused("persons", persons, [], [], [])

    def test_no_list(self):
        for thing in no_lists() + [tuple(PERSONS), "abc"]:
            with self.subTest(thing=thing):
                self.assert_refused("persons", thing, [], [], [])


class Sights(Parts):
    def test_up_to_twenty_four(self):
        for count in (0, 1, 2, 23, 24):
            with self.subTest(count=count):
                self.assert_let_by(sights=[SIGHT] * count)
        for count in (25, 26):
            with self.subTest(count=count):
                self.assert_refused("sights", list(PERSONS), [SIGHT] * count, [], [])

    def test_good_ones(self):
        for person in PERSONS:
            for hour in (0, 1, 10 ** 18):
                for length in range(1, 7):
                    self.assert_let_by(sights=[(person, hour, ("fire",) * length)])

    def test_words_may_be_persons_and_alike(self):
        self.assert_let_by(sights=[("ann", 3, ("ann", "bert", "ann", "eve"))])

    def test_one_person_with_several(self):
        self.assert_let_by(sights=[("ann", 5, ("fire",)), ("ann", 3, ("mill",)), ("ann", 5, ("fire",))])

    def test_no_list(self):
        for thing in no_lists() + [(SIGHT,), SIGHT]:
            with self.subTest(thing=thing):
                self.assert_refused("sights", list(PERSONS), thing, [], [])

    def test_no_tuple(self):
        for thing in no_tuples() + [list(SIGHT)]:
            self.refuse_sight(thing)

    def test_number_of_things(self):
        for one in ((), ("ann",), ("ann", 3), ("ann", 3, ("fire",), 4), ("ann", 3, "fire", "mill"), SIGHT + (None,)):
            self.refuse_sight(one)

    def test_order_of_things(self):
        for one in ((3, "ann", ("fire",)), (("fire",), 3, "ann"), ("ann", ("fire",), 3)):
            self.refuse_sight(one)

    def test_no_person_of_the_book(self):
        for person in wrong_names() + ["eve", "an", "anna", "fire"]:
            self.refuse_sight((person, 3, ("fire",)))

    def test_no_hour(self):
        for hour in no_hours():
            self.refuse_sight(("ann", hour, ("fire",)))

    def test_no_tale(self):
        for tale in no_tuples() + [(), ["fire"], "fire", ("a",) * 7, ("a",) * 8, (("fire",),)]:
            self.refuse_sight(("ann", 3, tale))

    def test_wrong_words(self):
        for word in wrong_names():
            for tale in ((word,), (word, "mill"), ("fire", word, "mill"), ("a", "b", "c", "d", "e", word)):
                self.refuse_sight(("ann", 3, tale))


class Talks(Parts):
    def test_up_to_a_hundred_and_twenty(self):
        for count in (0, 1, 2, 24, 25, 60, 61, 119, 120):
            with self.subTest(count=count):
                self.assert_let_by(talks=[TALK] * count)
        for count in (121, 122):
            with self.subTest(count=count):
                self.assert_refused("talks", list(PERSONS), [], [TALK] * count, [])

    def test_good_ones(self):
        for hour in (0, 1, 10 ** 18):
            for way in ("both", "one"):
                self.assert_let_by(talks=[(hour, "ann", "bert", way), (hour, "cleo", "ann", way)])

    def test_in_any_order_and_alike(self):
        self.assert_let_by(talks=[(9, "ann", "bert", "one"), (2, "bert", "ann", "both"), (9, "ann", "bert", "one")])

    def test_no_list(self):
        for thing in no_lists() + [(TALK,), TALK]:
            with self.subTest(thing=thing):
                self.assert_refused("talks", list(PERSONS), [], thing, [])

    def test_no_tuple(self):
        for thing in no_tuples() + [list(TALK)]:
            self.refuse_talk(thing)

    def test_number_of_things(self):
        for one in ((), (4,), (4, "ann"), (4, "ann", "bert"), (4, "ann", "bert", "both", "one"), TALK + (None,)):
            self.refuse_talk(one)

    def test_order_of_things(self):
        for one in (("ann", 4, "bert", "both"), ("ann", "bert", 4, "both"), (4, "both", "ann", "bert")):
            self.refuse_talk(one)

    def test_no_hour(self):
        for hour in no_hours():
            self.refuse_talk((hour, "ann", "bert", "both"))

    def test_no_person_of_the_book(self):
        for person in wrong_names() + ["eve", "an", "anna"]:
            self.refuse_talk((4, person, "bert", "both"))
            self.refuse_talk((4, "ann", person, "one"))

    def test_one_with_itself(self):
        for way in ("both", "one"):
            for person in PERSONS:
                self.refuse_talk((4, person, person, way))

    def test_no_way(self):
        for way in no_texts() + ["", "Both", "ONE", "both ", " one", "one\n", "o", "bot", "none", "other", "bothone"]:
            self.refuse_talk((4, "ann", "bert", way))


class Sayings(Parts):
    def test_up_to_sixty(self):
        for count in (0, 1, 2, 24, 25, 59, 60):
            with self.subTest(count=count):
                self.assert_let_by(sayings=[SAYING] * count)
        for count in (61, 62, 120):
            with self.subTest(count=count):
                self.assert_refused("sayings", list(PERSONS), [], [], [SAYING] * count)

    def test_good_ones(self):
        for person in PERSONS:
            for hour in (0, 1, 10 ** 18):
                self.assert_let_by(sayings=[("knew", person, hour), ("unheard", person, hour)])
                self.assert_let_by(sayings=[("silent", person, 0, hour), ("silent", person, hour, 10 ** 18)])
            self.assert_let_by(sayings=[("unheard", person, None)])
        self.assert_let_by(sayings=[("barred", "ann", "bert"), ("barred", "bert", "ann"), ("barred", "ann", "cleo")])

    def test_silent_for_one_hour(self):
        for hour in (0, 7, 10 ** 18):
            self.assert_let_by(sayings=[("silent", "ann", hour, hour)])

    def test_that_speak_against_one_another(self):
        self.assert_let_by(sayings=[("knew", "ann", 3), ("unheard", "ann", 3), ("unheard", "ann", None)])

    def test_no_list(self):
        for thing in no_lists() + [(SAYING,), SAYING]:
            with self.subTest(thing=thing):
                self.assert_refused("sayings", list(PERSONS), [], [], thing)

    def test_no_tuple(self):
        for thing in no_tuples() + [list(SAYING), ["silent", "ann", 2, 3]]:
            self.refuse_saying(thing)

    def test_no_kind(self):
        wrong = ["", "Knew", "knew ", "knew\n", "know", "heard", "told", "saw", "one", "both", "UNHEARD", "bar"]
        for kind in no_texts() + wrong:
            self.refuse_saying((kind, "ann", 3))
            self.refuse_saying((kind, "ann", None))
            self.refuse_saying((kind, "ann", "bert"))
            self.refuse_saying((kind, "ann", 2, 3))

    def test_number_of_things(self):
        for kind in ("knew", "unheard", "silent", "barred"):
            for behind in ((), ("ann",), ("ann", 2, 3, 4), ("ann", "bert", "cleo", "ann")):
                self.refuse_saying((kind,) + behind)
        self.refuse_saying(())

    def test_things_of_another_kind_of_saying(self):
        for kind in ("knew", "unheard"):
            for behind in (("ann", "bert"), ("ann", 2, 3), ("ann", 3, None), ("ann", None, None)):
                self.refuse_saying((kind,) + behind)
        for behind in (("ann", 3), ("ann", None), ("ann", "bert"), ("ann", "bert", "cleo")):
            self.refuse_saying(("silent",) + behind)
        for behind in (("ann", 3), ("ann", None), ("ann", 2, 3), ("ann", "bert", 3), ("ann", "bert", None)):
            self.refuse_saying(("barred",) + behind)

    def test_no_person_of_the_book(self):
        for person in wrong_names() + ["eve", "an", "anna"]:
            self.refuse_saying(("knew", person, 3))
            self.refuse_saying(("unheard", person, 3))
            self.refuse_saying(("unheard", person, None))
            self.refuse_saying(("silent", person, 2, 3))
            self.refuse_saying(("barred", person, "bert"))
            self.refuse_saying(("barred", "bert", person))

    def test_no_hour(self):
        for hour in no_hours_or_none():
            self.refuse_saying(("knew", "ann", hour))
            self.refuse_saying(("unheard", "ann", hour))
            self.refuse_saying(("silent", "ann", hour, 10 ** 18))
            self.refuse_saying(("silent", "ann", 0, hour))

    def test_none_stands_in_unheard_alone(self):
        self.refuse_saying(("knew", "ann", None))
        self.refuse_saying(("silent", "ann", None, 3))
        self.refuse_saying(("silent", "ann", 3, None))
        self.refuse_saying(("silent", "ann", None, None))
        self.refuse_saying(("barred", "ann", None))
        self.refuse_saying(("unheard", None, None))

    def test_begin_later_than_end(self):
        for begin, end in ((1, 0), (5, 4), (10 ** 18, 10 ** 18 - 1), (10 ** 18, 0)):
            self.refuse_saying(("silent", "ann", begin, end))

    def test_barred_from_itself(self):
        for person in PERSONS:
            self.refuse_saying(("barred", person, person))


class FirstPart(Parts):
    def test_of_wrong_parts_the_first_is_told(self):
        good = [list(PERSONS), [SIGHT], [TALK], [SAYING]]
        parts = ["persons", "sights", "talks", "sayings"]
        for wrong in (None, [None], [()], [("ann",)], EqualToAll(), [EqualToAllUnhashed()]):
            for first in range(4):
                for mask in range(8):
                    handed = list(good)
                    handed[first] = wrong
                    for place in range(first + 1, 4):
                        if mask >> (place - 1) & 1:
                            handed[place] = wrong
                    with self.subTest(handed=handed):
                        self.assert_refused(parts[first], *handed)

    def test_lists_that_are_too_long(self):
        sights, talks, sayings = [SIGHT] * 25, [TALK] * 121, [SAYING] * 61
        self.assert_refused("persons", names(25), sights, talks, sayings)
        self.assert_refused("sights", list(PERSONS), sights, talks, sayings)
        self.assert_refused("talks", list(PERSONS), [SIGHT], talks, sayings)
        self.assert_refused("sayings", list(PERSONS), [SIGHT], [TALK], sayings)

    def test_a_person_that_is_missing_is_told_where_it_is_used(self):
        self.assert_refused("sights", ["bert"], [SIGHT], [TALK], [SAYING])
        self.assert_refused("talks", ["bert"], [], [TALK], [SAYING])
        self.assert_refused("sayings", ["ann"], [SIGHT], [], [SAYING])

    def test_all_parts_full(self):
        self.assert_let_by(names(24), [("xa", 3, ("fire",) * 6)] * 24, [(4, "xa", "xb", "one")] * 120,
                           [("silent", "xa", 0, 10 ** 18)] * 60)


if __name__ == "__main__":
    unittest.main()
