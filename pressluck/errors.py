"""The refusals of the program, a class for each."""


class LuckError(ValueError):
    pass


class NoShare(LuckError):
    pass


class NoTable(LuckError):
    pass


class NoPool(LuckError):
    pass


class NoEnd(LuckError):
    def __init__(self, places):
        LuckError.__init__(self, "the board is not sure to end")
        # A copy, so that what happens to the handed-in list later does not reach the ring told here.
        self.places = list(places)


class TooMany(LuckError):
    pass


class NoGame(LuckError):
    pass


class NoWay(LuckError):
    pass


class NoRule(LuckError):
    pass


class NoStep(LuckError):
    pass


class NoPlay(LuckError):
    pass


class NoRow(LuckError):
    pass
