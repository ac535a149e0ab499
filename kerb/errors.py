"""The refusals: one class for each, all under one base."""


class KerbError(ValueError):
    pass


class NoText(KerbError):
    pass


class Unfit(KerbError):
    pass


class Unknown(KerbError):
    pass


class TooMany(KerbError):
    pass


class NoRound(KerbError):
    pass


class NoTown(KerbError):
    pass
