"""The refusals: a class for each, all under PileError."""


class PileError(ValueError):
    pass


class NoShares(PileError):
    pass


class NoPile(PileError):
    pass


class NoSign(PileError):
    pass


class NoSlot(PileError):
    pass


class NoMore(PileError):
    pass


class NoText(PileError):
    pass


class NotLeaf(PileError):
    pass
