"""Every refusal of the program, each right under one base [2]."""


class RotaError(ValueError):
    pass


class NoRule(RotaError):
    pass


class NoName(RotaError):
    pass


class NoDay(RotaError):
    pass


class NoRow(RotaError):
    pass


class TooWide(RotaError):
    pass


class NoHouse(RotaError):
    def __init__(self, line):
        self.line = line


class Faulty(RotaError):
    def __init__(self, day, word, who, which):
        self.day = day
        self.word = word
        self.who = who
        self.which = which
