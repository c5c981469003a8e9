"""What a whole number, an hour and a name are."""

# Rows of a written book hold these words where a name could stand, so no name is one of them.
KEPT_WORDS = (
    "person", "talk", "saw", "knew", "heard", "told",
    "not", "nobody", "never", "by", "from", "to",
)


def is_whole(thing):
    return isinstance(thing, int) and not isinstance(thing, bool)


def is_hour(thing):
    return is_whole(thing) and 0 <= thing <= 10 ** 18


def is_name(thing):
    if not isinstance(thing, str) or not 1 <= len(thing) <= 12:
        return False
    # Not islower: that lets letters beyond a to z by.
    return all(["a" <= letter <= "z" for letter in thing]) and thing not in KEPT_WORDS
