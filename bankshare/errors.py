"""The refusals. Each one stands straight under BankError, so that one can be taken without another."""


class BankError(ValueError):
    pass


class NoGround(BankError):
    def __init__(self, place):
        BankError.__init__(self, f"no ground in the tuple at {place}")
        self.place = place


class NoLength(BankError):
    def __init__(self, place):
        BankError.__init__(self, f"no long in the tuple at {place}")
        self.place = place


class OffBank(BankError):
    pass


class Odd(BankError):
    def __init__(self, ground):
        BankError.__init__(self, f"an odd sum of {ground} ground")
        self.ground = ground


class NoHeirs(BankError):
    pass


class Uneven(BankError):
    def __init__(self, ground):
        BankError.__init__(self, f"a sum of {ground} ground that is no multiple of the heirs")
        self.ground = ground


class NoText(BankError):
    def __init__(self, place):
        BankError.__init__(self, f"no stretch in the part at {place}")
        self.place = place
