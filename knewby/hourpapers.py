"""Papers of hours, by which nobody can have known earlier, and what is settled of a book."""

from knewby.bars import open_sights, open_tellings
from knewby.earliest import earliest, earliest_story
from knewby.stories import unfitted


def is_no_later(hour, bound):
    # None counts as later than each hour.
    return hour is not None and hour <= bound


def keeps_sights(book, hours):
    sights = book.sights()
    return all([is_no_later(hours[sights[i][0]], sights[i][1]) for i in open_sights(book)])


def keeps_tellings(book, hours):
    talks = book.talks()
    for k, teller, hearer in open_tellings(book):
        hour = talks[k][0]
        is_told = hours[teller] is not None and hours[teller] < hour
        if is_told and not is_no_later(hours[hearer], hour):
            return False
    return True


def is_paper(book, some):
    if [person for person, hour in some] != sorted(book.persons()):
        return False
    hours = dict(some)
    return keeps_sights(book, hours) and keeps_tellings(book, hours)


def settled(book):
    story = earliest_story(book)
    broken = unfitted(book, story)
    if broken == []:
        return ("story", story)
    # What the earliest story doesn't fit are knew-sayings alone, each one that no story can fit beside the bars.
    return ("paper", earliest(book), broken[0])
