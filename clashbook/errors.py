"""The refusals of the program, one class each."""


# Above all the others, so that an asker can take any refusal by one name.
class ClashError(ValueError):
    pass


class NoText(ClashError):
    pass


class NoName(ClashError):
    pass


class NoRule(ClashError):
    pass


class NoRow(ClashError):
    pass


class NoMiddle(ClashError):
    pass


class TooMuch(ClashError):
    pass
