"""The refusals of the program."""


class OrderError(ValueError):
    """Any refusal."""


class NoText(OrderError):
    """A text that is no row's."""


class NoPlace(OrderError):
    """A place at which nothing stands."""


class Ring(OrderError):
    """Pairs that lead back to where they began."""


class NoStep(OrderError):
    """No deed that could be taken back or done again."""
