"""The refusals, each a class of its own."""


class GreyError(ValueError):
    pass


class EmptySlot(GreyError):
    pass


class NoField(GreyError):
    pass


class Full(GreyError):
    pass


class NoName(GreyError):
    pass


class Sound(GreyError):
    pass


class TextError(GreyError):
    def __init__(self, row):
        GreyError.__init__(self, f"row {row}")
        self.row = row


class BadRow(TextError):
    pass


class Twice(TextError):
    pass


class NoHand(TextError):
    pass


class NoSlot(TextError):
    pass
