"""What the program refuses, one class for each refusal, all of them under HitError."""


class HitError(ValueError):
    pass


class TooMany(HitError):
    pass


class NoText(HitError):
    pass


class NoDeed(HitError):
    pass


class NoFamily(HitError):
    pass


class Full(HitError):
    pass
