"""Lines of telling to a person by an hour, and as many as can be that have no talk in common."""

from knewby.bars import open_sights, open_tellings
from knewby.earliest import first_entries, open_entries
from knewby.errors import Saw
from knewby.flows import filled
from knewby.stories import hours_of_tellings


def seen_hours(book):
    sights = book.sights()
    hours = {}
    for i in open_sights(book):
        person = sights[i][0]
        hours[person] = min(sights[i][1], hours.get(person, sights[i][1]))
    return hours


def saw_ahead_of(seen, person, hour):
    return person in seen and seen[person] < hour


def hours_of_open(book):
    hours = hours_of_tellings(book)
    return dict([(telling, hours[telling]) for telling in open_tellings(book)])


def leads_to(hours, telling, later):
    return telling[2] == later[1] and hours[telling] < hours[later]


def is_line(book, some, person, hour):
    hours = hours_of_open(book)
    if some == [] or not all([telling in hours for telling in some]):
        return False
    first = some[0]
    last = some[-1]
    if not saw_ahead_of(seen_hours(book), first[1], hours[first]):
        return False
    if not all([leads_to(hours, some[k], some[k + 1]) for k in range(len(some) - 1)]):
        return False
    return last[2] == person and hours[last] <= hour


def talk_links(book, person, hour):
    seen = seen_hours(book)
    hours = hours_of_open(book)
    told = [telling for telling in hours if hours[telling] <= hour]
    links = {}
    for telling in told:
        into = ("into", telling[0])
        out = ("out", telling[0])
        # A talk bears one way, whichever of the two tells; all else bears more than can come, so that talks alone part.
        links[(into, out)] = 1
        if saw_ahead_of(seen, telling[1], hours[telling]):
            links[("start", into)] = 2
        if telling[2] == person:
            links[(out, "end")] = 2
        for later in told:
            if leads_to(hours, telling, later):
                links[(out, ("into", later[0]))] = 2
    return links


def talk_flow(book, person, hour):
    seen = seen_hours(book)
    if person in seen and seen[person] <= hour:
        raise Saw("the person saw by that hour, so a line needs no talk")
    return filled(talk_links(book, person, hour), "start", "end")


def talks_behind(following, place):
    talks = []
    while place != "end":
        talks.append(place[1])
        # From the talk's one side to its other, and on from there.
        place = following[following[place]]
    return talks


def line_over(entries, talks, person):
    # A way may go through a talk and on with its own teller, so the line is sought anew among the way's talks.
    known = first_entries([entry for entry in entries if entry[2][0] == "saw" or entry[2][1] in talks])
    line = []
    while known[person][2][0] == "heard":
        way = known[person][2]
        line.append((way[1], way[2], person))
        person = way[2]
    return list(reversed(line))


def apart_lines(book, person, hour):
    used = talk_flow(book, person, hour)[0]
    # No place but the start, which nothing leads to, is left by several ways.
    following = dict(used)
    firsts = [other for one, other in used if one == "start"]
    entries = open_entries(book)
    return [line_over(entries, talks_behind(following, place), person) for place in firsts]
