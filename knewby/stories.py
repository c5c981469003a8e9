"""Stories: who knew at which hour, by which sight or telling, and which sayings that fits."""


def hours_in(story):
    hours = {}
    for person, hour, way in story:
        hours[person] = hour
    return hours


def are_rising(names):
    return all([names[k] < names[k + 1] for k in range(len(names) - 1)])


def is_sight_at(sights, i, person, hour):
    # A number below nought would find a sight from the end of the list.
    return 0 <= i < len(sights) and sights[i][0] == person and sights[i][1] == hour


def hours_of_tellings(book):
    talks = book.talks()
    hours = {}
    for telling in book.tellings():
        hours[telling] = talks[telling[0]][0]
    return hours


def is_told_at(talk_hours, telling, hour):
    return telling in talk_hours and talk_hours[telling] == hour


def is_story(book, some):
    if not are_rising([entry[0] for entry in some]):
        return False
    sights = book.sights()
    talk_hours = hours_of_tellings(book)
    hours = hours_in(some)

    def is_good(person, hour, way):
        if way[0] == "saw" and len(way) == 2:
            return is_sight_at(sights, way[1], person, hour)
        if way[0] != "heard" or len(way) != 3:
            return False
        teller = way[2]
        return is_told_at(talk_hours, (way[1], teller, person), hour) and teller in hours and hours[teller] < hour

    return all([is_good(person, hour, way) for person, hour, way in some])


def fits_knew(hours, person, hour):
    return person in hours and hours[person] <= hour


def fits_unheard(hours, person, hour):
    return person not in hours or (hour is not None and hours[person] > hour)


def fits_silent(story, person, begin, end):
    heard = [hour for hearer, hour, way in story if way[0] == "heard" and way[2] == person]
    return not any([begin <= hour <= end for hour in heard])


def fits_barred(story, person, other):
    ways = [way for hearer, hour, way in story if hearer == person and way[0] == "heard"]
    return not any([way[2] == other for way in ways])


def fits(story, saying):
    if saying[0] == "knew":
        return fits_knew(hours_in(story), saying[1], saying[2])
    if saying[0] == "unheard":
        return fits_unheard(hours_in(story), saying[1], saying[2])
    if saying[0] == "silent":
        return fits_silent(story, saying[1], saying[2], saying[3])
    return fits_barred(story, saying[1], saying[2])


def unfitted(book, story):
    return [k for k, saying in enumerate(book.sayings()) if not fits(story, saying)]
