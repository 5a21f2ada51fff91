"""The refusals, each right under one base."""


class BeatlessError(ValueError):
    pass


class NoWeb(BeatlessError):
    pass


class NoHand(BeatlessError):
    pass


class NoProgram(BeatlessError):
    pass


class NoText(BeatlessError):
    def __init__(self, row):
        self.row = row


class NoWay(BeatlessError):
    pass


class NoLetter(BeatlessError):
    pass


class NoRound(BeatlessError):
    pass


class Fallen(BeatlessError):
    pass


class NoLine(BeatlessError):
    pass


class NoWorld(BeatlessError):
    pass


class NoDeed(BeatlessError):
    def __init__(self, at):
        self.at = at
