"""The earliest hours at which each person can have known, and a story that meets them all."""

from knewby.bars import open_sights, open_tellings
from knewby.stories import unfitted


def open_entries(book):
    # As a story would hold them: sights by their numbers, behind them tellings in their order.
    sights = book.sights()
    talks = book.talks()
    entries = [(sights[i][0], sights[i][1], ("saw", i)) for i in open_sights(book)]
    for k, teller, hearer in open_tellings(book):
        entries.append((hearer, talks[k][0], ("heard", k, teller)))
    return entries


def hour_of(entry):
    return entry[1]


def can_follow(known, entry):
    way = entry[2]
    if way[0] == "saw":
        return True
    return way[2] in known and hour_of(known[way[2]]) < hour_of(entry)


def first_entries(entries):
    known = {}
    # Entries of one hour keep their order when sorted, so the first that can follow is the way to be told.
    for entry in sorted(entries, key=hour_of):
        if entry[0] not in known and can_follow(known, entry):
            known[entry[0]] = entry
    return known


def first_story(entries):
    known = first_entries(entries)
    return [known[person] for person in sorted(known)]


def fitting_story(book, entries):
    # Of these open entries alone nobody can know earlier than here, so where this doesn't fit no story of them does.
    story = first_story(entries)
    return story if unfitted(book, story) == [] else None


def earliest(book):
    known = first_entries(open_entries(book))
    return [(person, hour_of(known[person]) if person in known else None) for person in sorted(book.persons())]


def earliest_story(book):
    return first_story(open_entries(book))
