"""Promises with a row of orders that wait until there is room for them (point 9)."""

from surehouse.books import MOST_PROMISED, all_but, is_named
from surehouse.catalogs import check_catalog, check_order
from surehouse.errors import BadName
from surehouse.promises import keeping

MOST_WAITING = 8


class Waits:
    """The orders that are promised, and those that wait."""

    def __init__(self, catalog):
        check_catalog(catalog)
        self._catalog = catalog
        self._promised = ()
        self._waiting = ()

    @property
    def promises(self):
        """The promised orders, as they were promised."""
        return self._promised

    @property
    def row(self):
        """The orders that wait, first ones first."""
        return self._waiting

    def ask(self, order):
        """Promise an order if it can be kept, or let it wait; whether it is promised now."""
        check_order(self._catalog, order)
        if is_named(self._promised + self._waiting, order[0]):
            raise BadName("an order of this name is promised or waits")
        if self._promise(order):
            return True
        if len(self._waiting) >= MOST_WAITING:
            raise BadName("as many orders wait as can")
        self._waiting = self._waiting + (order,)
        return False

    def cancel(self, name):
        """Take an order out; the names of those that waited and are promised now."""
        if is_named(self._waiting, name):
            self._waiting = all_but(self._waiting, name)
            return ()
        if not is_named(self._promised, name):
            raise BadName("no order of this name is promised or waits")
        self._promised = all_but(self._promised, name)
        return self._ask_again()

    def _ask_again(self):
        """Ask those that wait once more, first ones first; the names of those that are promised now."""
        asked = self._waiting
        names = []
        for order in asked:
            if self._promise(order):
                names.append(order[0])
        self._waiting = tuple([order for order in asked if order[0] not in names])
        return tuple(names)

    def _promise(self, order):
        """Promise an order if there is room for it; whether there was."""
        if len(self._promised) >= MOST_PROMISED:
            return False
        if keeping(self._catalog, self._promised + (order,))[0] == "cut":
            return False
        self._promised = self._promised + (order,)
        return True
