"""The refusals: one base under ValueError, the others each straight under it."""


class PruneError(ValueError):
    pass


class NoRatio(PruneError):
    pass


class NoTable(PruneError):
    pass


class NoRow(PruneError):
    pass


class NoMeasure(PruneError):
    pass


class NoPlace(PruneError):
    def __init__(self, place):
        PruneError.__init__(self, f"no such place: {place!r}")
        self.place = place


class NoPruning(PruneError):
    pass


class NoPrice(PruneError):
    def __init__(self, price):
        # The price is not shown: Python refuses to write a number of very many figures.
        PruneError.__init__(self, "a price is a ratio from 0 on")
        self.price = price


class NoTree(PruneError):
    pass
