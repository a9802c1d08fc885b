"""A desk that takes lines and answers lines (point 29)."""

from surehouse.books import Book
from surehouse.catalogs import are_wished
from surehouse.costs import cheapest
from surehouse.errors import BadLine, BadName
from surehouse.shoptexts import items_in, number_in, parted, read_catalog, read_order, write_order

LAST_DAY = 60
MOST_COUNT = 999
# How many words a line has that begins with this one.
LENGTHS = {"cancel": 2, "most": 4, "earliest": 4, "orders": 1, "plan": 1, "why": 1, "cost": 1}


def is_form(words):
    """Whether words are a line of one of the forms that a desk knows."""
    if not words:
        return False
    # How many words an order's text may have is asked when it is read.
    return words[0] == "ask" or (words[0] in LENGTHS and len(words) == LENGTHS[words[0]])


def listed(rows):
    """Rows of words and numbers as one line."""
    texts = [" ".join([str(value) for value in row]) for row in rows]
    return ", ".join(texts) if texts else "-"


class Desk:
    """A book over the catalog that was read last."""

    def __init__(self):
        self._catalog = ()
        self._book = None

    def read(self, text):
        """Take the catalog of a text."""
        catalog = read_catalog(text)
        self._catalog = catalog
        self._book = Book(catalog)

    def say(self, line):
        """The answer to a line."""
        words = parted(line) if isinstance(line, str) else []
        if not is_form(words):
            return "what"
        if self._book is None:
            return "no catalog"
        if words[0] == "ask":
            return self._ask(" ".join(words[1:]))
        if words[0] == "cancel":
            return self._cancel(words[1])
        if words[0] in ("most", "earliest"):
            return self._count(words[0], items_in(words[1]), words[2], words[3])
        return self._told(words[0])

    def _ask(self, text):
        """What the book says to the order of a text."""
        try:
            order = read_order(self._catalog, text)
            return "promised" if self._book.ask(order) else "cannot be kept"
        except BadLine as error:
            return f"word {error.word}"
        except BadName:
            return "no such name"

    def _cancel(self, name):
        """Take an order out."""
        try:
            self._book.cancel(name)
        except BadName:
            return "no such name"
        return "done"

    def _count(self, word, items, region, number):
        """How many could be promised more by a day, or by which day so many could."""
        if not are_wished(self._catalog, items) or region not in self._catalog[1]:
            return "no such name"
        least, most = (0, LAST_DAY) if word == "most" else (1, MOST_COUNT)
        value = number_in(number, least, most)
        if value is None:
            return "no such number"
        if word == "most":
            return str(self._book.most(items, region, value)[0])
        day = self._book.earliest(items, region, value)
        return "never" if day is None else f"day {day}"

    def _told(self, word):
        """What the book tells of its orders, sends, last refusal or cost."""
        if word == "orders":
            return listed([(write_order(self._catalog, order),) for order in self._book.orders])
        if word == "plan":
            return listed(self._book.sends())
        if word == "why":
            return listed([wish for _, cut in self._book.refusals[-1:] for wish in cut[1]])
        return str(cheapest(self._catalog, self._book.orders)[2])
