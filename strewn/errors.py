"""The refusals of the program: each stands right under StrewError, none under another."""


class StrewError(ValueError):
    pass


class BadRule(StrewError):
    pass


class BadKey(StrewError):
    pass


class BadSize(StrewError):
    pass


class Full(StrewError):
    pass


class TooMany(StrewError):
    pass
