"""The errors of the package, each a direct subclass of one built-in class."""


class NoFactor(LookupError):
    """There is no factor with this number."""

    def __init__(self, factor):
        self.factor = factor


class NoJoin(LookupError):
    """There is no join with this number."""

    def __init__(self, join):
        self.join = join


class NoNumber(LookupError):
    """Nothing has this number."""

    def __init__(self, number):
        self.number = number


class NoName(LookupError):
    """No factor has this name."""

    def __init__(self, name):
        self.name = name


class Unlike(ValueError):
    """The numbers of factors are not all the same."""


class NotBehind(ValueError):
    """One grouping does not lead to the other one."""


class NotOpen(ValueError):
    """There is no step at this join."""

    def __init__(self, join):
        self.join = join


class Crossed(ValueError):
    """These two brackets cross."""

    def __init__(self, one, other):
        self.one = one
        self.other = other


class TooMany(ValueError):
    """There are more than so many."""

    def __init__(self, most):
        self.most = most


class Taken(ValueError):
    """Another factor has this name."""

    def __init__(self, name):
        self.name = name


class LastOne(ValueError):
    """There is no other factor."""


class BadText(ValueError):
    """The text is not so written."""


class BadLine(ValueError):
    """The line with this number is not so written."""

    def __init__(self, number):
        self.number = number


class NothingDone(ValueError):
    """There is nothing that can be taken back."""


class Gainsaid(ValueError):
    """Nothing goes with all that was said."""
