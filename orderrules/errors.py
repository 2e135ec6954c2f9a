"""The exceptions of the package."""


class OrderError(ValueError):
    """The base of all exceptions that the package raises on purpose."""


class BadRule(OrderError):
    """A value is not a rule, or not a family of rules."""


class BadText(OrderError):
    """A value is not a text, or not a list of texts."""


class BadNumber(OrderError):
    """A value is not a number that is asked for."""


class NotFound(OrderError):
    """There is no such thing as was asked for."""
