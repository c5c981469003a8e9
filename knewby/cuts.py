"""The fewest talks without which no line of telling comes to a person by an hour."""

from knewby.lines import talk_flow


def talk_cut(book, person, hour):
    reached = talk_flow(book, person, hour)[1]
    return [k for k in range(len(book.talks())) if ("into", k) in reached and ("out", k) not in reached]
