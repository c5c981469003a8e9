"""As many ways as can be from a start to an end, over links that bear one way or several.

Links are a dict from tuples (one, other) of places to how many ways the link bears; no two of them lead back and forth
between the same places.
"""


def rooms_of(links):
    room = {}
    for link, most in links.items():
        one = link[0]
        other = link[1]
        room.setdefault(one, {})
        room.setdefault(other, {})
        room[one][other] = most
        # Against a link there is room as soon as ways use it: going back there takes one of them off it.
        room[other][one] = 0
    return room


def reached_from(room, start):
    came = {start: None}
    waiting = [start]
    while waiting != []:
        place = waiting.pop(0)
        around = room.get(place, {})
        fresh = [other for other in around if around[other] > 0 and other not in came]
        for other in fresh:
            came[other] = place
        waiting.extend(fresh)
    return came


def take_way(room, came, end):
    place = end
    while came[place] is not None:
        before = came[place]
        room[before][place] -= 1
        room[place][before] += 1
        place = before


def filled(links, start, end):
    """The links that the ways use, and a dict whose keys are the places that one more way would still reach."""
    room = rooms_of(links)
    came = reached_from(room, start)
    while end in came:
        take_way(room, came, end)
        came = reached_from(room, start)
    used = [(one, other) for one, other in links if room[other][one] > 0]
    return (used, came)
