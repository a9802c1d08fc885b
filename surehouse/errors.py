"""The errors of the shop: all stand under ShopError, which stands under ValueError."""


class ShopError(ValueError):
    """Whatever the shop refuses."""


class BadCatalog(ShopError):
    """A value that is no catalog."""


class BadOrder(ShopError):
    """A value that is no order, or no tuple of orders."""


class BadNumber(ShopError):
    """A number that is none, or out of its limits."""


class BadItem(ShopError):
    """Items, bundles, a region or a day that are none."""


class BadName(ShopError):
    """A name that stands for nothing, or stands already."""


class BadPrices(ShopError):
    """A value that is no prices of a catalog."""


class BadBill(ShopError):
    """A value that is no bill."""


class BadAccounts(ShopError):
    """A value that is no accounts."""


class BadEntries(ShopError):
    """Entries that are none, or do not sum to 0."""


class BadKey(ShopError):
    """A key that is none, or does not stand, or stands with other entries."""


class BadDeals(ShopError):
    """Supplies, deals or buyers that make no world."""


class BadEvent(ShopError):
    """An event or a state that cannot be."""


class BadParcel(ShopError):
    """Sends, days or spans that belong to no plan."""


class TooLow(ShopError):
    """An account, by its name, would fall below 0 and may not."""

    def __init__(self, name):
        ShopError.__init__(self, f"{name} would fall below 0")
        self.name = name


class BadLine(ShopError):
    """A word of a text that cannot stand there: its line and its place, both from 1."""

    def __init__(self, line, word):
        ShopError.__init__(self, f"line {line}, word {word}")
        self.line = line
        self.word = word
