"""The refusals: one class for each, all of them straight under HomeError.

None of them makes words of what it keeps: it may be made of any thing, and not
each thing can be shown.
"""


class HomeError(ValueError):
    pass


class Wrong(HomeError):
    def __init__(self, at):
        self.at = at


class NoRoom(HomeError):
    def __init__(self, room):
        self.room = room


class There(HomeError):
    def __init__(self, key):
        self.key = key


class NotThere(HomeError):
    def __init__(self, key):
        self.key = key


class Unkept(HomeError):
    def __init__(self, word, room):
        self.word = word
        self.room = room


class Unlike(HomeError):
    pass


class NoText(HomeError):
    def __init__(self, at):
        self.at = at


class NoRow(HomeError):
    pass


class NoPlan(HomeError):
    pass


class TooMany(HomeError):
    def __init__(self, most):
        self.most = most
