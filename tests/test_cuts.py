"""As many lines as can be that are apart, and a cut of as many talks [17]."""

import itertools
import random
import unittest

from knewby.books import Book
from knewby.cuts import talk_cut
from knewby.errors import KnewError, Saw
from knewby.lines import apart_lines, is_line
from tests.things import all_lines, busy_book, opened

LAST = 10 ** 18
TALE = ("fire",)


def comes_to(book, person, hour, missing):
    """Whether it comes to the person by the hour without the missing talks, by walking them again till nobody is new."""
    hours = {}
    fell = True
    while fell:
        fell = False
        for one, at, way in opened(book):
            is_there = way[0] == "saw" or (way[1] not in missing and hours.get(way[2], at) < at)
            if is_there and hours.get(one, at + 1) > at:
                hours[one] = at
                fell = True
    return person in hours and hours[person] <= hour


class Asking(unittest.TestCase):
    def assert_parted(self, count, book, person, hour):
        """So many lines that are apart are told, and a cut of as many talks, each line with just one of them."""
        lines = apart_lines(book, person, hour)
        self.assertIs(list, type(lines))
        self.assertEqual(count, len(lines), lines)
        for line in lines:
            self.assertIs(list, type(line))
            self.assertIs(is_line(book, line, person, hour), True, line)
        talks = [telling[0] for line in lines for telling in line]
        self.assertEqual(sorted(set(talks)), sorted(talks))
        cut = talk_cut(book, person, hour)
        self.assertIs(list, type(cut))
        self.assertEqual(sorted(set(cut)), cut)
        self.assertEqual(count, len(cut))
        for line in lines:
            self.assertEqual(1, len([telling for telling in line if telling[0] in cut]))
        self.assertFalse(comes_to(book, person, hour, cut))

    def assert_saw(self, book, person, hour):
        with self.assertRaises(Saw):
            apart_lines(book, person, hour)
        with self.assertRaises(Saw):
            talk_cut(book, person, hour)


class Few(Asking):
    def test_none_where_nobody_saw(self):
        book = Book(["ann", "bert"], [], [(4, "ann", "bert", "both")] * 3, [])
        self.assert_parted(0, book, "bert", LAST)
        self.assertEqual([], apart_lines(book, "bert", LAST))
        self.assertEqual([], talk_cut(book, "bert", LAST))

    def test_none_without_talks(self):
        self.assert_parted(0, Book(["ann", "bert"], [("ann", 1, TALE)], [], []), "bert", LAST)
        self.assert_parted(0, Book(["ann"], [], [], []), "ann", 0)

    def test_none_where_no_talk_leads_there(self):
        talks = [(4, "bert", "ann", "one"), (5, "bert", "cleo", "both")]
        book = Book(["ann", "bert", "cleo"], [("ann", 1, TALE)], talks, [])
        for person in ("bert", "cleo"):
            self.assert_parted(0, book, person, LAST)

    def test_none_where_hours_do_not_rise(self):
        for hour in (3, 4):
            talks = [(4, "ann", "bert", "one"), (hour, "bert", "cleo", "one")]
            self.assert_parted(0, Book(["ann", "bert", "cleo"], [("ann", 1, TALE)], talks, []), "cleo", LAST)
        for hour in (4, 5):
            book = Book(["ann", "bert"], [("ann", hour, TALE)], [(4, "ann", "bert", "one")], [])
            self.assert_parted(0, book, "bert", LAST)

    def test_none_where_bars_close_it(self):
        talks = [(4, "ann", "bert", "one"), (6, "bert", "cleo", "one")]
        for bar in (("unheard", "cleo", 6), ("unheard", "cleo", None), ("silent", "bert", 6, 6),
                    ("barred", "cleo", "bert"), ("unheard", "bert", 4), ("silent", "ann", 3, 5),
                    ("barred", "bert", "ann"), ("unheard", "ann", 1)):
            book = Book(["ann", "bert", "cleo"], [("ann", 1, TALE)], talks, [bar])
            self.assert_parted(0, book, "cleo", LAST)
        self.assert_parted(1, Book(["ann", "bert", "cleo"], [("ann", 1, TALE)], talks, [("knew", "cleo", 0)]), "cleo", 9)

    def test_one_by_one_talk(self):
        book = Book(["ann", "bert"], [("ann", 1, TALE)], [(4, "bert", "ann", "both")], [])
        self.assert_parted(1, book, "bert", 4)
        self.assertEqual([[(0, "ann", "bert")]], apart_lines(book, "bert", 4))
        self.assertEqual([0], talk_cut(book, "bert", 4))

    def test_one_by_a_chain(self):
        talks = [(8, "cleo", "dora", "both"), (4, "ann", "bert", "both"), (6, "bert", "cleo", "both")]
        book = Book(["ann", "bert", "cleo", "dora"], [("ann", 1, TALE)], talks, [])
        self.assert_parted(1, book, "dora", 8)
        self.assertEqual([[(1, "ann", "bert"), (2, "bert", "cleo"), (0, "cleo", "dora")]], apart_lines(book, "dora", 8))
        self.assertIn(talk_cut(book, "dora", 8), ([0], [1], [2]))

    def test_the_hour_itself_before_and_behind(self):
        talks = [(4, "ann", "bert", "one"), (6, "ann", "bert", "one"), (6, "ann", "bert", "one"), (9, "ann", "bert", "one")]
        book = Book(["ann", "bert"], [("ann", 1, TALE)], talks, [])
        for hour, count in ((0, 0), (3, 0), (4, 1), (5, 1), (6, 3), (7, 3), (8, 3), (9, 4), (10, 4), (LAST, 4)):
            self.assert_parted(count, book, "bert", hour)

    def test_a_chain_whose_last_talk_is_too_late(self):
        talks = [(4, "ann", "bert", "both"), (6, "bert", "cleo", "both")]
        book = Book(["ann", "bert", "cleo"], [("ann", 1, TALE)], talks, [])
        self.assert_parted(0, book, "cleo", 5)
        self.assert_parted(1, book, "cleo", 6)

    def test_one_talk_that_all_pass(self):
        talks = [(2, "ann", "bert", "one"), (3, "ann", "bert", "one"), (5, "bert", "cleo", "one"),
                 (7, "cleo", "dora", "one"), (8, "cleo", "dora", "one")]
        book = Book(["ann", "bert", "cleo", "dora"], [("ann", 1, TALE)], talks, [])
        self.assert_parted(1, book, "dora", 9)
        self.assertEqual([2], talk_cut(book, "dora", 9))

    def test_a_book_that_no_story_fits(self):
        book = Book(["ann", "bert"], [("ann", 1, TALE)], [(4, "ann", "bert", "one")], [("knew", "bert", 2)])
        self.assert_parted(1, book, "bert", 4)


class Several(Asking):
    def test_straight_ones(self):
        for count in (2, 3, 7):
            talks = [(4 + k % 2, "ann", "bert", "both") for k in range(count)]
            book = Book(["ann", "bert"], [("ann", 1, TALE)], talks, [])
            self.assert_parted(count, book, "bert", 5)
            self.assertEqual(list(range(count)), talk_cut(book, "bert", 5))

    def test_by_two_that_saw(self):
        sights = [("ann", 1, TALE), ("bert", 2, TALE)]
        talks = [(4, "ann", "cleo", "both"), (4, "bert", "cleo", "both"), (3, "ann", "bert", "both")]
        self.assert_parted(2, Book(["ann", "bert", "cleo"], sights, talks, []), "cleo", 4)

    def test_sights_are_no_talks(self):
        # One sight is enough for all lines, and of one that saw and heard each line may begin with the sight.
        sights = [("ann", 1, TALE)]
        talks = [(2, "ann", "bert", "one"), (3, "bert", "cleo", "one"), (4, "bert", "cleo", "one")]
        self.assert_parted(1, Book(["ann", "bert", "cleo"], sights, talks, []), "cleo", 9)
        self.assert_parted(2, Book(["ann", "bert", "cleo"], sights + [("bert", 2, TALE)], talks, []), "cleo", 9)
        self.assert_parted(2, Book(["ann", "bert", "cleo"], sights + [("bert", 3, TALE)], talks, []), "cleo", 9)
        self.assert_parted(1, Book(["ann", "bert", "cleo"], sights + [("bert", 4, TALE)], talks, []), "cleo", 9)

    def test_a_person_may_be_in_several(self):
        talks = [(2, "ann", "bert", "one"), (3, "ann", "bert", "one"), (4, "bert", "cleo", "one"), (5, "bert", "cleo", "one")]
        self.assert_parted(2, Book(["ann", "bert", "cleo"], [("ann", 1, TALE)], talks, []), "cleo", 9)

    def test_each_must_be_in_time(self):
        # Bert hears at 2 and at 5, but tells at 3 and 4.
        talks = [(2, "ann", "bert", "one"), (5, "ann", "bert", "one"), (3, "bert", "cleo", "one"), (4, "bert", "cleo", "one")]
        book = Book(["ann", "bert", "cleo"], [("ann", 1, TALE)], talks, [])
        self.assert_parted(1, book, "cleo", 9)
        self.assertEqual([0], talk_cut(book, "cleo", 9))
        self.assert_parted(2, book.with_talk((6, "bert", "cleo", "one")), "cleo", 9)

    CROSSED = [
        (1, "ann", "bert", "both"), (4, "bert", "cleo", "both"), (5, "cleo", "zoe", "both"),
        (2, "bert", "dora", "both"), (3, "dora", "eve", "both"), (4, "eve", "zoe", "both"),
        (1, "ann", "fay", "both"), (2, "fay", "gil", "both"), (3, "gil", "cleo", "both"),
    ]

    def test_where_the_first_and_shortest_way_stands_in_the_way_of_two(self):
        persons = ["ann", "bert", "cleo", "dora", "eve", "fay", "gil", "zoe"]
        chance = random.Random(3)
        for way in ("both", "one"):
            for k in range(40):
                talks = [talk[:3] + (way,) for talk in self.CROSSED]
                chance.shuffle(talks)
                book = Book(persons, [("ann", 0, TALE)], talks, [])
                self.assert_parted(2, book, "zoe", 5)
                self.assert_parted(1, book, "zoe", 4)
                self.assert_parted(0, book, "zoe", 3)

    def test_where_two_short_ways_must_be_taken_back(self):
        # Three lines, where the short way through both crossings would leave one or two.
        talks = self.CROSSED + [(1, "ann", "hal", "one"), (2, "hal", "ivo", "one"), (3, "ivo", "eve", "one"),
                                (2, "bert", "jan", "one"), (6, "jan", "zoe", "one"), (4, "dora", "zoe", "one")]
        persons = ["ann", "bert", "cleo", "dora", "eve", "fay", "gil", "hal", "ivo", "jan", "zoe"]
        chance = random.Random(5)
        for k in range(40):
            chance.shuffle(talks)
            self.assert_parted(3, Book(persons, [("ann", 0, TALE)], talks, []), "zoe", 9)

    def test_a_talk_one_way_and_back(self):
        # Two lines could cross at talk 2, one each way; that isn't apart, and they needn't.
        sights = [("ann", 0, TALE), ("dora", 0, TALE)]
        talks = [(1, "ann", "bert", "one"), (1, "dora", "cleo", "one"), (3, "bert", "cleo", "both"),
                 (5, "bert", "zoe", "one"), (5, "cleo", "zoe", "one")]
        persons = ["ann", "bert", "cleo", "dora", "zoe"]
        book = Book(persons, sights, talks, [])
        self.assertTrue(is_line(book, [(0, "ann", "bert"), (2, "bert", "cleo"), (4, "cleo", "zoe")], "zoe", 5))
        self.assertTrue(is_line(book, [(1, "dora", "cleo"), (2, "cleo", "bert"), (3, "bert", "zoe")], "zoe", 5))
        for order in itertools.permutations(range(5)):
            self.assert_parted(2, Book(persons, sights, [talks[k] for k in order], []), "zoe", 5)

    def test_a_talk_between_two_that_saw(self):
        sights = [("bert", 0, TALE), ("cleo", 0, TALE)]
        talks = [(3, "bert", "cleo", "both"), (5, "bert", "zoe", "one"), (5, "cleo", "zoe", "one")]
        bert, cleo = ("unheard", "bert", 2), ("unheard", "cleo", 2)
        for closed, count in (([], 2), ([bert], 2), ([cleo], 2), ([bert, cleo], 0)):
            self.assert_parted(count, Book(["bert", "cleo", "zoe"], sights, talks, closed), "zoe", 5)
        self.assert_parted(1, Book(["bert", "cleo", "zoe"], sights, talks, [bert]), "bert", 5)
        self.assert_parted(1, Book(["bert", "cleo", "zoe"], sights, talks, [cleo]), "cleo", 5)

    def test_several_talks_at_one_hour(self):
        talks = [(4, "ann", "bert", "both"), (4, "ann", "cleo", "both"), (4, "bert", "cleo", "both"),
                 (4, "bert", "zoe", "both"), (4, "ann", "zoe", "both"), (4, "zoe", "ann", "both")]
        book = Book(["ann", "bert", "cleo", "zoe"], [("ann", 1, TALE)], talks, [])
        self.assert_parted(2, book, "zoe", 4)
        self.assertEqual([4, 5], talk_cut(book, "zoe", 4))
        self.assert_parted(3, book.with_talk((5, "bert", "zoe", "one")), "zoe", 5)
        self.assert_parted(1, book, "bert", 4)

    def test_a_way_past_the_person_itself(self):
        talks = [(2, "ann", "zoe", "both"), (3, "zoe", "bert", "both"), (4, "bert", "zoe", "both")]
        book = Book(["ann", "bert", "zoe"], [("ann", 1, TALE)], talks, [])
        self.assert_parted(1, book, "zoe", 9)
        self.assertEqual([0], talk_cut(book, "zoe", 9))

    def test_tellings_that_are_closed_one_way(self):
        # Bert may tell cleo at talk 2, cleo may not tell bert.
        talks = [(1, "ann", "bert", "one"), (1, "ann", "cleo", "one"), (3, "bert", "cleo", "both"), (5, "cleo", "zoe", "one"),
                 (6, "cleo", "zoe", "one")]
        book = Book(["ann", "bert", "cleo", "zoe"], [("ann", 0, TALE)], talks, [("barred", "bert", "cleo")])
        self.assert_parted(2, book, "zoe", 9)
        turned = Book(["ann", "bert", "cleo", "zoe"], [("ann", 0, TALE)], talks, [("barred", "cleo", "bert")])
        self.assert_parted(1, turned, "zoe", 9)


class OwnSight(Asking):
    def made(self, sights, sayings=()):
        return Book(["ann", "bert"], [("ann", 1, TALE)] + sights, [(4, "ann", "bert", "both")], list(sayings))

    def test_at_before_and_behind_the_hour(self):
        book = self.made([("bert", 6, TALE)])
        for hour in (6, 7, LAST):
            self.assert_saw(book, "bert", hour)
        for hour, count in ((5, 1), (4, 1), (3, 0), (0, 0)):
            self.assert_parted(count, book, "bert", hour)

    def test_the_earliest_of_several(self):
        for hours in ((9, 3), (3, 9)):
            book = self.made([("bert", hour, TALE) for hour in hours])
            self.assert_saw(book, "bert", 3)
            self.assert_saw(book, "bert", 8)
            self.assert_parted(0, book, "bert", 2)

    def test_one_that_is_not_open(self):
        for said in (6, 7, None):
            book = self.made([("bert", 6, TALE)], [("unheard", "bert", said)])
            self.assert_parted(0, book, "bert", 9)
        book = self.made([("bert", 6, TALE), ("bert", 8, TALE)], [("unheard", "bert", 6)])
        self.assert_parted(0, book, "bert", 7)
        self.assert_saw(book, "bert", 8)
        self.assert_saw(self.made([("bert", 6, TALE)], [("unheard", "bert", 5)]), "bert", 6)

    def test_at_nought_and_at_the_last_hour(self):
        self.assert_saw(self.made([("bert", 0, TALE)]), "bert", 0)
        self.assert_saw(self.made([("bert", LAST, TALE)]), "bert", LAST)
        self.assert_parted(1, self.made([("bert", LAST, TALE)]), "bert", LAST - 1)

    def test_without_talks_too(self):
        self.assert_saw(Book(["ann"], [("ann", 4, TALE)], [], []), "ann", 4)
        self.assert_parted(0, Book(["ann"], [("ann", 4, TALE)], [], []), "ann", 3)

    def test_the_sight_of_another_one_refuses_nothing(self):
        self.assert_parted(1, self.made([]), "bert", 9)
        self.assert_saw(self.made([]), "ann", 9)

    def test_the_refusal_is_of_the_program(self):
        for asked in (apart_lines, talk_cut):
            with self.assertRaises(KnewError):
                asked(self.made([]), "ann", 9)


class Many(Asking):
    def test_the_last_hours(self):
        talks = [(LAST - 1, "ann", "bert", "one"), (LAST, "bert", "cleo", "one"), (LAST, "ann", "cleo", "one"),
                 (LAST - 1, "ann", "cleo", "one")]
        book = Book(["ann", "bert", "cleo"], [("ann", LAST - 2, TALE)], talks, [])
        self.assert_parted(3, book, "cleo", LAST)
        self.assert_parted(1, book, "cleo", LAST - 1)
        self.assert_parted(0, book, "cleo", LAST - 2)

    def test_as_many_talks_as_may_be_between_two(self):
        talks = [(k + 1, "ann", "bert", "both") for k in range(120)]
        book = Book(["ann", "bert"], [("ann", 0, TALE)], talks, [])
        self.assert_parted(120, book, "bert", LAST)
        self.assert_parted(60, book, "bert", 60)

    def test_as_many_talks_as_may_be_by_way_of_one(self):
        # Of sixty that cleo hears and sixty that she tells the k-th is told ahead of the k-th heard, but for ten.
        talks = [(10 * k + 5, "ann", "cleo", "both") for k in range(60)]
        talks += [(10 * k + (9 if k < 10 else 1), "cleo", "zoe", "both") for k in range(60)]
        book = Book(["ann", "cleo", "zoe"], [("ann", 0, TALE)], talks, [])
        self.assert_parted(59, book, "zoe", LAST)

    def test_as_many_talks_as_may_be_in_layers(self):
        names = ["x" + "abcdefghijklmnopqrstuvwxyz"[k] for k in range(24)]
        layers = [names[:6], names[6:12], names[12:18], names[18:]]
        talks = []
        for number, ahead in enumerate(layers[:3]):
            for one, other in itertools.product(ahead, layers[number + 1]):
                talks.append((100 * number + 10, one, other, "both"))
        talks += [(900 + k, names[18 + k % 5], names[23], "one") for k in range(12)]
        self.assertEqual(120, len(talks))
        sights = [(name, 0, TALE) for name in layers[0]] * 4
        book = Book(names, sights, talks, [])
        self.assert_parted(6, book, names[23], 899)
        self.assert_parted(18, book, names[23], LAST)

    def test_made_up_books_of_many_talks(self):
        chance = random.Random(11)
        counts = []
        for k in range(30):
            names = ["x" + "abcdefghijklmnopqrstuvwxyz"[n] for n in range(chance.choice([3, 5, 9, 24]))]
            talks = []
            for n in range(120):
                one, other = chance.sample(names, 2)
                talks.append((chance.randrange(1, chance.choice([30, 10 ** 18])), one, other, chance.choice(["both", "one"])))
            sights = [(chance.choice(names[:-1]), chance.randrange(9), TALE) for n in range(3)]
            sayings = [("barred", *chance.sample(names, 2)) for n in range(3)]
            sayings += [("silent", chance.choice(names), 10 * n, 10 * n + 5) for n in range(3)]
            book = Book(names, sights, talks, sayings)
            count = len(apart_lines(book, names[-1], LAST))
            self.assert_parted(count, book, names[-1], LAST)
            counts.append(count)
        self.assertGreater(len(set(counts)), 10)


def most_apart(rows):
    """How many of these sets of talks can be that have none in common: with the first, or without it."""
    if not rows:
        return 0
    with_first = 1 + most_apart([row for row in rows[1:] if not row & rows[0]])
    return max(with_first, most_apart(rows[1:]))


class Small(Asking):
    def test_all_sets_of_lines(self):
        chance = random.Random(17)
        found = {}
        for k in range(300):
            book = busy_book(chance, chance.choice([3, 4, 4]), chance.choice([4, 8]), 8)
            for person in book.persons():
                hour = chance.randrange(9)
                saw = [at for one, at, way in opened(book) if way[0] == "saw" and one == person and at <= hour]
                if saw:
                    self.assert_saw(book, person, hour)
                    continue
                lines = all_lines(book, person, hour)
                rows = {frozenset(telling[0] for telling in line) for line in lines}
                # One that holds another one whole is never of use.
                least = [row for row in rows if not any(other < row for other in rows)]
                count = most_apart(sorted(least, key=sorted))
                self.assert_parted(count, book, person, hour)
                cut = talk_cut(book, person, hour)
                for line in lines:
                    self.assertTrue(any(telling[0] in cut for telling in line))
                found[count] = found.get(count, 0) + 1
        self.assertGreater(min(found[0], found[1], found[2], found[3]), 4)


if __name__ == "__main__":
    unittest.main()
