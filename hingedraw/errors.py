"""All refusals of the program, each straight under RodError."""


class RodError(ValueError):
    pass


class NoQuotient(RodError):
    pass


class NoField(RodError):
    pass


class NoRoot(RodError):
    pass


class NoMeet(RodError):
    pass


class Stuck(RodError):

    def __init__(self, step):
        self.step = step


class NoMachine(RodError):
    pass


class NoCurve(RodError):
    pass


class NoName(RodError):
    pass


class BadNote(RodError):
    pass
