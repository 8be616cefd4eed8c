"""The refusals of the program: one class for each thing that can be handed in wrongly."""


class RowError(ValueError):
    pass


class BadNumbers(RowError):
    pass


class BadWeights(RowError):
    pass


class BadRow(RowError):
    pass


class BadMost(RowError):
    pass
