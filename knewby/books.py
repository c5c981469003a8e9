"""Books: persons, and the sights, talks and sayings that are told of them."""

from knewby.errors import NoBook, NoSaying
from knewby.words import is_hour, is_name, is_whole

MOST_PERSONS = 24
MOST_SIGHTS = 24
MOST_TALKS = 120
MOST_SAYINGS = 60
MOST_WORDS = 6


def is_list_up_to(thing, most):
    return isinstance(thing, list) and len(thing) <= most


def is_tuple_of(thing, length):
    return isinstance(thing, tuple) and len(thing) == length


def is_person(persons, thing):
    # A name first: a thing of another kind may hold itself equal to any text.
    return is_name(thing) and thing in persons


def are_unlike_persons(persons, one, other):
    return is_person(persons, one) and is_person(persons, other) and one != other


def is_tale(thing):
    if not isinstance(thing, tuple) or not 1 <= len(thing) <= MOST_WORDS:
        return False
    return all([is_name(word) for word in thing])


def is_sight(persons, thing):
    if not is_tuple_of(thing, 3):
        return False
    return is_person(persons, thing[0]) and is_hour(thing[1]) and is_tale(thing[2])


def is_way(thing):
    return isinstance(thing, str) and thing in ("both", "one")


def is_talk(persons, thing):
    if not is_tuple_of(thing, 4):
        return False
    return is_hour(thing[0]) and are_unlike_persons(persons, thing[1], thing[2]) and is_way(thing[3])


def is_span(begin, end):
    return is_hour(begin) and is_hour(end) and begin <= end


def is_short_saying(persons, kind, person, behind):
    if kind == "barred":
        return are_unlike_persons(persons, person, behind)
    if not is_person(persons, person):
        return False
    if kind == "unheard":
        return behind is None or is_hour(behind)
    return kind == "knew" and is_hour(behind)


def is_saying(persons, thing):
    if not isinstance(thing, tuple) or len(thing) == 0 or not isinstance(thing[0], str):
        return False
    if len(thing) == 4:
        return thing[0] == "silent" and is_person(persons, thing[1]) and is_span(thing[2], thing[3])
    return len(thing) == 3 and is_short_saying(persons, thing[0], thing[1], thing[2])


def are_persons(thing):
    if not is_list_up_to(thing, MOST_PERSONS) or len(thing) == 0:
        return False
    return all([is_name(one) for one in thing]) and len(set(thing)) == len(thing)


def are_sights(persons, thing):
    return is_list_up_to(thing, MOST_SIGHTS) and all([is_sight(persons, one) for one in thing])


def are_talks(persons, thing):
    return is_list_up_to(thing, MOST_TALKS) and all([is_talk(persons, one) for one in thing])


def are_sayings(persons, thing):
    return is_list_up_to(thing, MOST_SAYINGS) and all([is_saying(persons, one) for one in thing])


class Book:
    def __init__(self, persons, sights, talks, sayings):
        if not are_persons(persons):
            raise NoBook("persons")
        if not are_sights(persons, sights):
            raise NoBook("sights")
        if not are_talks(persons, talks):
            raise NoBook("talks")
        if not are_sayings(persons, sayings):
            raise NoBook("sayings")
        # Copies, here and where they are told: the lists of the asker may change later.
        self.kept_persons = list(persons)
        self.kept_sights = list(sights)
        self.kept_talks = list(talks)
        self.kept_sayings = list(sayings)

    def persons(self):
        return list(self.kept_persons)

    def sights(self):
        return list(self.kept_sights)

    def talks(self):
        return list(self.kept_talks)

    def sayings(self):
        return list(self.kept_sayings)

    def with_sight(self, one):
        return Book(self.kept_persons, self.kept_sights + [one], self.kept_talks, self.kept_sayings)

    def with_talk(self, one):
        return Book(self.kept_persons, self.kept_sights, self.kept_talks + [one], self.kept_sayings)

    def with_saying(self, one):
        return Book(self.kept_persons, self.kept_sights, self.kept_talks, self.kept_sayings + [one])

    def without_saying(self, number):
        if not is_whole(number) or not 0 <= number < len(self.kept_sayings):
            raise NoSaying("there is no saying of that number")
        others = self.kept_sayings[:number] + self.kept_sayings[number + 1:]
        return Book(self.kept_persons, self.kept_sights, self.kept_talks, others)

    def tellings(self):
        told = []
        for k, talk in enumerate(self.kept_talks):
            told.append((k, talk[1], talk[2]))
            if talk[3] == "both":
                told.append((k, talk[2], talk[1]))
        return told
