"""The errors of judging plans, joins, offers and pushes."""

from evensieve.errors import SieveError

# What is refused may be of any kind, so no message shows it.


class BadMost(SieveError):
    """The most rows that a table may have are no integer from 1 to 4."""

    def __init__(self, most):
        SieveError.__init__(self, "the most rows of a table are an integer from 1 to 4")
        self.most = most


class BadKey(SieveError):
    """What tables should be joined by is no key column of both."""

    def __init__(self, key):
        SieveError.__init__(self, "tables are joined by a key column that both have")
        self.key = key


class BadOffers(SieveError):
    """An offer is none; None where there is no row of so many as there may be."""

    def __init__(self, number):
        SieveError.__init__(self, "an offer is a pair of a price and a plan")
        self.number = number


class BadLists(SieveError):
    """A list of plans has not one for each table; None where the columns are not as they must be."""

    def __init__(self, number):
        SieveError.__init__(self, "two to four tables are joined, and a list has a plan for each")
        self.number = number


class BadPrices(SieveError):
    """The prices of a table are none; None where there is no row of one for each table."""

    def __init__(self, number):
        SieveError.__init__(self, "the prices of a table are a pair of integers")
        self.number = number
