"""The latest hour at which a person knows in a story that fits."""

from knewby.earliest import fitting_story, hour_of, open_entries
from knewby.errors import NoStory
from knewby.stories import hours_in


def latest(book, person):
    entries = open_entries(book)
    others = [entry for entry in entries if entry[0] != person]
    own = [entry for entry in entries if entry[0] == person]
    # An entry that can't follow leaves the story without the person, which was tried first and didn't fit.
    for chosen in [[]] + [[entry] for entry in sorted(own, key=hour_of, reverse=True)]:
        story = fitting_story(book, others + chosen)
        if story is not None:
            return (hours_in(story).get(person), story)
    raise NoStory("no story fits the book")
