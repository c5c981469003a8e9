"""What several tests use: things of many kinds, for what is refused "of any kind"; small books and their stories."""

import itertools
import random
from fractions import Fraction

from knewby.books import Book


class EqualToAll:
    """Holds itself equal to everything, so a check by == alone lets it by."""

    def __eq__(self, other):
        return True

    def __hash__(self):
        return 0


class EqualToAllUnhashed:
    def __eq__(self, other):
        return True

    __hash__ = None


def no_texts_or_numbers():
    """Things that are neither texts nor whole numbers nor None."""
    return [
        True, False, 0.0, 1.0, 1.5, float("nan"), float("inf"), 1j, Fraction(1), b"", b"ann", bytearray(b"ann"),
        [], ["ann"], [1], (), ("ann",), (1,), {}, {"ann": 1}, set(), {"ann"}, frozenset(["ann"]), range(3),
        object(), int, str, len, iter(["ann"]), EqualToAll(), EqualToAllUnhashed(),
    ]


def no_texts():
    return no_texts_or_numbers() + [None, 0, 1, -1, 10 ** 18]


def no_hours_or_none():
    """Things that are neither hours nor None."""
    return no_texts_or_numbers() + ["", "1", "ann", -1, 10 ** 18 + 1]


def no_hours():
    return no_hours_or_none() + [None]


def wrong_names():
    return no_texts() + [
        "", "a" * 13, "Ann", "aNn", "anN", "ann1", "an n", "ann\n", "\nann", "ann ", "a-n", "\u00e4nn", "by", "nobody",
    ]


def no_lists():
    return [
        None, True, False, 0, 1, 1.0, "", "ann", b"ann", (), ("ann",), {}, {"ann": 1}, set(), {"ann"}, range(0),
        object(), list, iter([]), EqualToAll(), EqualToAllUnhashed(),
    ]


def no_tuples():
    return [
        None, True, False, 0, 1, 1.0, "", "ann", "abc", "abcd", b"abc", [], {}, set(), range(3), range(4),
        object(), tuple, iter(()), EqualToAll(), EqualToAllUnhashed(),
    ]


NAMES = ["dora", "ann", "cleo", "bert"]
TALE = ("fire",)


def some_saying(chance, persons, hours):
    person, other = chance.sample(persons, 2)
    begin, end = sorted([chance.randrange(hours), chance.randrange(hours)])
    return chance.choice([
        ("knew", person, end),
        ("unheard", person, chance.choice([begin, begin, None])),
        ("silent", person, begin, end),
        ("barred", person, other),
    ])


def some_talk(chance, persons, hours):
    one, other = chance.sample(persons, 2)
    return (chance.randrange(hours), one, other, chance.choice(["both", "one"]))


def some_book(chance, count, hours):
    persons = NAMES[:count]
    sights = [(chance.choice(persons), chance.randrange(hours), TALE) for k in range(chance.randrange(4))]
    talks = [some_talk(chance, persons, hours) for k in range(chance.randrange(6))]
    sayings = [some_saying(chance, persons, hours) for k in range(chance.randrange(6))]
    return Book(persons, sights, talks, sayings)


def busy_book(chance, count, hours, most):
    """One with early sights and more talks than bars, so that much comes about in it."""
    persons = NAMES[:count]
    sights = [(chance.choice(persons), chance.randrange(3), TALE) for k in range(chance.randrange(1, 4))]
    talks = [some_talk(chance, persons, hours) for k in range(chance.randrange(most // 2, most + 1))]
    sayings = [some_saying(chance, persons, hours) for k in range(chance.randrange(3))]
    return Book(persons, sights, talks, sayings)


def ways_of(book, person):
    ways = [(person, sight[1], ("saw", i)) for i, sight in enumerate(book.sights()) if sight[0] == person]
    for k, (hour, one, other, way) in enumerate(book.talks()):
        if other == person:
            ways.append((person, hour, ("heard", k, one)))
        if one == person and way == "both":
            ways.append((person, hour, ("heard", k, other)))
    return ways


def choices(book):
    """Each person by one of its ways, or left out."""
    persons = sorted(book.persons())
    for chosen in itertools.product(*[[None] + ways_of(book, person) for person in persons]):
        yield [entry for entry in chosen if entry is not None]


def follows(some):
    """Whether each one that heard has its teller there at an earlier hour."""
    hours = {person: hour for person, hour, way in some}
    return all(way[0] == "saw" or hours.get(way[2], hour) < hour for person, hour, way in some)


def breaks(story, saying):
    told = [(person, hour, way[2]) for person, hour, way in story if way[0] == "heard"]
    hours = [hour for person, hour, way in story if person == saying[1]]
    if saying[0] == "knew":
        return hours == [] or hours[0] > saying[2]
    if saying[0] == "unheard":
        return hours != [] and (saying[2] is None or hours[0] <= saying[2])
    if saying[0] == "silent":
        return any(teller == saying[1] and saying[2] <= hour <= saying[3] for person, hour, teller in told)
    return any((person, teller) == saying[1:] for person, hour, teller in told)


def broken_by(book, story):
    return [k for k, saying in enumerate(book.sayings()) if breaks(story, saying)]


def opened(book):
    """The open sights and tellings, as a story would hold them: those that alone break no saying but of knew."""
    entries = [entry for person in book.persons() for entry in ways_of(book, person)]
    bars = [saying for saying in book.sayings() if saying[0] != "knew"]
    return [entry for entry in entries if not any(breaks([entry], saying) for saying in bars)]


def some_books(count):
    chance = random.Random(20261116)
    return [some_book(chance, chance.choice([2, 3, 4]), chance.choice([3, 6])) for k in range(count)]


def all_lines(book, person, hour):
    """Each line to the person by the hour, found by putting one open telling more behind what begins with a sight."""
    entries = opened(book)
    seen = [(one, at) for one, at, way in entries if way[0] == "saw"]
    told = [(way[1], way[2], one, at) for one, at, way in entries if way[0] == "heard"]
    found = []

    def go_on(line, one, before):
        for k, teller, hearer, at in told:
            if teller == one and before < at <= hour:
                longer = line + [(k, teller, hearer)]
                if hearer == person and longer not in found:
                    found.append(longer)
                go_on(longer, hearer, at)

    for one, at in seen:
        go_on([], one, at)
    return found
