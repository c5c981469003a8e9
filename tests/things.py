"""Things of many kinds, for tests of what is refused "of any kind"."""

from fractions import Fraction


class EqualToAll:
    """Holds itself equal to everything, so a check by == alone lets it by."""

    def __eq__(self, other):
        return True

    def __hash__(self):
        return 0


class EqualToAllUnhashed:
    def __eq__(self, other):
        return True

    __hash__ = None


def no_texts_or_numbers():
    """Things that are neither texts nor whole numbers nor None."""
    return [
        True, False, 0.0, 1.0, 1.5, float("nan"), float("inf"), 1j, Fraction(1), b"", b"ann", bytearray(b"ann"),
        [], ["ann"], [1], (), ("ann",), (1,), {}, {"ann": 1}, set(), {"ann"}, frozenset(["ann"]), range(3),
        object(), int, str, len, iter(["ann"]), EqualToAll(), EqualToAllUnhashed(),
    ]


def no_texts():
    return no_texts_or_numbers() + [None, 0, 1, -1, 10 ** 18]


def no_hours_or_none():
    """Things that are neither hours nor None."""
    return no_texts_or_numbers() + ["", "1", "ann", -1, 10 ** 18 + 1]


def no_hours():
    return no_hours_or_none() + [None]


def wrong_names():
    return no_texts() + [
        "", "a" * 13, "Ann", "aNn", "anN", "ann1", "an n", "ann\n", "\nann", "ann ", "a-n", "\u00e4nn", "by", "nobody",
    ]


def no_lists():
    return [
        None, True, False, 0, 1, 1.0, "", "ann", b"ann", (), ("ann",), {}, {"ann": 1}, set(), {"ann"}, range(0),
        object(), list, iter([]), EqualToAll(), EqualToAllUnhashed(),
    ]


def no_tuples():
    return [
        None, True, False, 0, 1, 1.0, "", "ann", "abc", "abcd", b"abc", [], {}, set(), range(3), range(4),
        object(), tuple, iter(()), EqualToAll(), EqualToAllUnhashed(),
    ]
