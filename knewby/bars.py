"""Bars: which sights and tellings the sayings leave open."""


def floor_of(book, person):
    floor = -1
    for saying in book.sayings():
        if saying[0] == "unheard" and saying[1] == person:
            if saying[2] is None:
                return None
            floor = max(floor, saying[2])
    return floor


def floors_of_all(book):
    floors = {}
    for person in book.persons():
        floors[person] = floor_of(book, person)
    return floors


def is_above(hour, floor):
    return floor is not None and hour > floor


def is_silent(sayings, person, hour):
    own = [saying for saying in sayings if saying[0] == "silent" and saying[1] == person]
    return any([saying[2] <= hour <= saying[3] for saying in own])


def is_barred(sayings, hearer, teller):
    return ("barred", hearer, teller) in sayings


def open_sights(book):
    floors = floors_of_all(book)
    return [i for i, sight in enumerate(book.sights()) if is_above(sight[1], floors[sight[0]])]


def open_tellings(book):
    talks = book.talks()
    sayings = book.sayings()
    floors = floors_of_all(book)
    found = []
    for k, teller, hearer in book.tellings():
        hour = talks[k][0]
        hushed = is_silent(sayings, teller, hour) or is_barred(sayings, hearer, teller)
        if is_above(hour, floors[hearer]) and not hushed:
            found.append((k, teller, hearer))
    return found
