"""The refusals, one class for each."""


class HoleError(ValueError):
    pass


class NoNet(HoleError):
    pass


class NoText(HoleError):
    pass


class NoRound(HoleError):
    pass


class NotFree(HoleError):
    pass


class NoRoom(HoleError):
    pass
