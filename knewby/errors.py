"""The refusals of the program."""


class KnewError(ValueError):
    pass


class NoBook(KnewError):
    def __init__(self, part):
        self.part = part


class NoSaying(KnewError):
    pass


class NoStory(KnewError):
    pass


class Saw(KnewError):
    pass


class TooMuch(KnewError):
    pass


class NoRow(KnewError):
    def __init__(self, row):
        self.row = row


class NoDeed(KnewError):
    pass
