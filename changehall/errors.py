"""The refusals of the program, one class for each."""


# Whoever wants to take every refusal alike takes this one.
class HallError(ValueError):
    pass


class NoHall(HallError):
    pass


class NoBasket(HallError):
    pass


class NoPlace(HallError):
    pass


class NoText(HallError):
    pass


class Unlike(HallError):
    pass


class TooMany(HallError):
    pass


class NotWithin(HallError):
    pass
