"""The promise [3] on small books, all of whose stories and papers are walked; and that nothing is shared [1], [2]."""

import copy
import itertools
import random
import unittest

from knewby.bars import floor_of, open_sights, open_tellings
from knewby.books import Book
from knewby.cuts import talk_cut
from knewby.earliest import earliest, earliest_story
from knewby.errors import NoStory
from knewby.hourpapers import is_paper, settled
from knewby.latest import latest
from knewby.lines import apart_lines, is_line
from knewby.needed import needed, story_without
from knewby.stories import is_story, unfitted
from tests.things import broken_by, busy_book, choices, follows, opened, some_book, some_books

TALE = ("fire",)


def as_late(hour):
    return 10 ** 19 if hour is None else hour


def walks(book, hours):
    """Whether the hours pass each open sight and telling."""
    for person, hour, way in opened(book):
        if (way[0] == "saw" or as_late(hours[way[2]]) < hour) and as_late(hours[person]) > hour:
            return False
    return True


class Small(unittest.TestCase):
    def test_stories_and_what_they_do_not_fit(self):
        for book in some_books(150):
            for some in choices(book):
                self.assertIs(follows(some), is_story(book, some), (book.talks(), some))
                if follows(some):
                    self.assertEqual(broken_by(book, some), unfitted(book, some))

    def test_open_ones_are_those_of_stories_that_fit_all_but_knew(self):
        for book in some_books(150):
            talks, sights = book.talks(), book.sights()
            found = [(sights[i][0], sights[i][1], ("saw", i)) for i in open_sights(book)]
            found += [(hearer, talks[k][0], ("heard", k, teller)) for k, teller, hearer in open_tellings(book)]
            self.assertEqual(sorted(opened(book)), sorted(found))
            knew = [k for k, saying in enumerate(book.sayings()) if saying[0] == "knew"]
            for story in filter(follows, choices(book)):
                fits_bars = all(k in knew for k in unfitted(book, story))
                self.assertIs(fits_bars, all(entry in found for entry in story))

    def test_earliest_hours_and_story(self):
        for book in some_books(400):
            entries = opened(book)
            stories = [some for some in choices(book) if follows(some) and all(one in entries for one in some)]
            least = {}
            for story in stories:
                for person, hour, way in story:
                    least[person] = min(hour, least.get(person, hour))
            self.assertEqual([(person, least.get(person)) for person in sorted(book.persons())], earliest(book))
            told = earliest_story(book)
            self.assertIn(told, stories)
            self.assertEqual(least, {person: hour for person, hour, way in told})
            for person, hour, way in told:
                self.assertEqual(self.first_way(book, entries, least, person), way)

    def first_way(self, book, entries, least, person):
        ways = [way for one, hour, way in entries if one == person and hour == least[person]]
        saw = [way for way in ways if way[0] == "saw"]
        if saw:
            return min(saw, key=lambda way: way[1])
        heard = [way for way in ways if way[2] in least and least[way[2]] < least[person]]
        return min(heard, key=lambda way: book.tellings().index((way[1], way[2], person)))

    def test_papers(self):
        chance = random.Random(7)
        papers = 0
        for book in [some_book(chance, 3, 4) for k in range(60)]:
            persons = sorted(book.persons())
            told = earliest(book)
            self.assertIs(is_paper(book, told), True)
            for hours in itertools.product([None, 0, 1, 2, 3, 4], repeat=3):
                some = list(zip(persons, hours))
                self.assertIs(walks(book, dict(some)), is_paper(book, some), (book.talks(), some))
                if is_paper(book, some):
                    papers += 1
                    self.assertTrue(all(as_late(a[1]) <= as_late(b[1]) for a, b in zip(some, told)))
        self.assertGreater(papers, 500)

    def test_settled(self):
        found = {"story": 0, "paper": 0}
        for book in some_books(400):
            knew = [k for k, saying in enumerate(book.sayings()) if saying[0] == "knew"]
            broken = [broken_by(book, some) for some in choices(book) if follows(some)]
            # What is left of knew-sayings in each story that fits all the others.
            left = [rows for rows in broken if all(k in knew for k in rows)]
            never = [k for k in knew if all(k in rows for rows in left)]
            told = settled(book)
            found[told[0]] += 1
            if [] in broken:
                self.assertEqual([], never)
                self.assertEqual(("story", earliest_story(book)), told)
            else:
                self.assertEqual(("paper", earliest(book), never[0]), told)
            # Those that can be can all be together.
            self.assertEqual(never, unfitted(book, earliest_story(book)))
        self.assertGreater(min(found.values()), 50)


def held_books(count):
    """Busy books with a saying more, that somebody knew by its earliest hour or somewhat later."""
    chance = random.Random(29)
    made = []
    while len(made) < count:
        book = busy_book(chance, chance.choice([3, 4]), chance.choice([4, 7]), 7)
        known = [(person, hour) for person, hour in earliest(book) if hour is not None]
        if known:
            person, hour = chance.choice(known)
            made.append(book.with_saying(("knew", person, hour + chance.randrange(4))))
    return made


def fitting(book):
    return [some for some in choices(book) if follows(some) and broken_by(book, some) == []]


class SmallHeld(unittest.TestCase):
    """Each question is asked of books with all stories that fit walked beside it, of those that none fits too."""

    @classmethod
    def setUpClass(cls):
        cls.walked = [(book, fitting(book)) for book in held_books(250) + some_books(100)]

    def test_latest_hours(self):
        told_hours, torn = 0, 0
        for book, stories in self.walked:
            for person in book.persons():
                if not stories:
                    torn += 1
                    self.assertRaises(NoStory, latest, book, person)
                    continue
                hours = [dict(entry[:2] for entry in story).get(person) for story in stories]
                last = None if None in hours else max(hours)
                hour, story = latest(book, person)
                self.assertEqual(last, hour, (book.talks(), book.sayings(), person))
                self.assertIn(story, stories)
                self.assertEqual(last, dict(entry[:2] for entry in story).get(person))
                told_hours += last is not None and last > min(hours)
        self.assertGreater(min(told_hours, torn), 30)

    def test_needed_ones(self):
        counts = []
        for book, stories in self.walked:
            if not stories:
                self.assertRaises(NoStory, needed, book)
                for person in book.persons():
                    self.assertRaises(NoStory, story_without, book, person)
                continue
            tellers = [{way[2] for person, hour, way in story if way[0] == "heard"} for story in stories]
            names = [person for person in sorted(book.persons()) if all(person in row for row in tellers)]
            self.assertEqual(names, needed(book), (book.talks(), book.sayings()))
            counts.append(len(names))
            for person in book.persons():
                story = story_without(book, person)
                if person in names:
                    self.assertIsNone(story)
                else:
                    self.assertIn(story, stories)
                    self.assertNotIn(person, tellers[stories.index(story)])
        self.assertGreater(min(counts.count(0), counts.count(1), counts.count(2)), 5)

    def test_by_an_hour_in_all_stories_and_in_some(self):
        for book, stories in [(book, stories) for book, stories in self.walked if stories]:
            early = dict(earliest(book))
            for person in book.persons():
                late = latest(book, person)[0]
                known = [as_late(dict(entry[:2] for entry in story).get(person)) for story in stories]
                for hour in range(-1, 9):
                    in_all = all(one <= hour for one in known)
                    in_some = any(one <= hour for one in known)
                    self.assertIs(in_all, late is not None and late <= hour, (book.talks(), person, hour))
                    self.assertIs(in_some, early[person] is not None and early[person] <= hour)


PERSONS = ["dora", "ann", "cleo", "bert"]
SIGHTS = [("ann", 2, TALE), ("bert", 9, TALE)]
TALKS = [(4, "ann", "bert", "both"), (6, "bert", "cleo", "one"), (1, "cleo", "dora", "one")]
FITTED = [("knew", "cleo", 6), ("unheard", "ann", 1), ("silent", "dora", 2, 5), ("barred", "ann", "dora")]
TORN = [("unheard", "dora", None), ("knew", "cleo", 3), ("knew", "dora", 9)]
LINE = [(0, "ann", "bert"), (1, "bert", "cleo")]
STORY = [("ann", 2, ("saw", 0)), ("bert", 4, ("heard", 0, "ann")), ("cleo", 6, ("heard", 1, "bert"))]
PAPER = [("ann", 2), ("bert", 4), ("cleo", 6), ("dora", None)]


def answers(book):
    return [
        open_sights(book), open_tellings(book), unfitted(book, list(STORY)), earliest(book), earliest_story(book),
        settled(book)[1], *line_answers(book), *held_answers(book),
    ]


def line_answers(book):
    lines = apart_lines(book, "cleo", 8)
    return lines + [lines, talk_cut(book, "cleo", 8)]


def held_answers(book):
    if settled(book)[0] == "paper":
        return []
    stories = [story_without(book, person) for person in ("cleo", "dora")]
    return stories + [latest(book, person)[1] for person in PERSONS] + [needed(book)]


def all_told(book):
    told = [floor_of(book, person) for person in PERSONS]
    told += [is_story(book, list(STORY)), is_paper(book, list(PAPER)), settled(book)]
    told += [is_line(book, list(LINE), "cleo", hour) for hour in (5, 6)]
    if told[-3][0] == "story":
        told += [latest(book, person) for person in PERSONS] + [story_without(book, person) for person in PERSONS]
    return told + answers(book)


class NothingShared(unittest.TestCase):
    def made(self, sayings):
        return Book(list(PERSONS), list(SIGHTS), list(TALKS), list(sayings))

    def test_the_same_book_has_the_same_answers(self):
        for sayings in (FITTED, TORN):
            book = self.made(sayings)
            first = all_told(book)
            self.assertEqual(first, all_told(book))
            self.assertEqual(first, all_told(self.made(sayings)))

    def test_lists_of_an_asker_change_nothing_told_later(self):
        for sayings in (FITTED, TORN):
            book = self.made(sayings)
            kept = copy.deepcopy(all_told(book))
            for rows in answers(book):
                rows.append("spoilt")
                rows[0] = "spoilt"
                rows.reverse()
            for rows in answers(book):
                rows.clear()
            self.assertEqual(kept, all_told(book))

    def test_lists_told_are_new_ones(self):
        for sayings in (FITTED, TORN):
            book = self.made(sayings)
            first = answers(book)
            kept = copy.deepcopy(first)
            for rows in answers(book):
                rows.clear()
            self.assertEqual(kept, first)
            rows = answers(book) + answers(book) + [book.persons(), book.sights(), book.talks(), book.sayings()]
            self.assertEqual(len(rows), len({id(one) for one in rows}))

    def test_what_is_handed_in_stays(self):
        for sayings in (FITTED, TORN):
            parts = [list(PERSONS), list(SIGHTS), list(TALKS), list(sayings)]
            kept = copy.deepcopy(parts)
            book = Book(*parts)
            all_told(book)
            self.assertEqual(kept, parts)
            self.assertEqual(kept, [book.persons(), book.sights(), book.talks(), book.sayings()])
            for some in (list(STORY), STORY[::-1], STORY + STORY, []):
                before = copy.deepcopy(some)
                is_story(book, some)
                self.assertEqual(before, some)
            story = list(STORY)
            unfitted(book, story)
            self.assertEqual(STORY, story)
            for some in (list(LINE), LINE[::-1], LINE + LINE, []):
                before = copy.deepcopy(some)
                is_line(book, some, "cleo", 8)
                self.assertEqual(before, some)
            for some in (list(PAPER), PAPER[::-1], PAPER + PAPER, []):
                before = copy.deepcopy(some)
                is_paper(book, some)
                self.assertEqual(before, some)

    def test_what_is_done_later_to_what_was_handed_in(self):
        for sayings in (FITTED, TORN):
            parts = [list(PERSONS), list(SIGHTS), list(TALKS), list(sayings)]
            book = Book(*parts)
            kept = all_told(self.made(sayings))
            for rows in parts:
                rows.clear()
            self.assertEqual(kept, all_told(book))
            story = list(STORY)
            broken = unfitted(book, story)
            story.clear()
            self.assertEqual(unfitted(book, list(STORY)), broken)


if __name__ == "__main__":
    unittest.main()
