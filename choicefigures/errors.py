"""The refusals of the program."""


class ChoiceError(ValueError):
    pass


class NoPrime(ChoiceError):
    pass


class NoMany(ChoiceError):
    pass


class NoPlace(ChoiceError):
    pass


class TooMany(ChoiceError):
    pass
