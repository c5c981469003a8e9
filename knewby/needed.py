"""Needed tellers: those without whose telling no story fits."""

from knewby.earliest import fitting_story, open_entries
from knewby.errors import NoStory


def is_heard_from(way, person):
    return way[0] == "heard" and way[2] == person


def story_without(book, person):
    entries = open_entries(book)
    if fitting_story(book, entries) is None:
        raise NoStory("no story fits the book")
    return fitting_story(book, [entry for entry in entries if not is_heard_from(entry[2], person)])


def needed(book):
    return [person for person in sorted(book.persons()) if story_without(book, person) is None]
