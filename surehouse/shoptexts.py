"""Catalogs and orders as texts (points 27 and 28)."""

from surehouse.catalogs import are_wished, check_catalog, check_order, is_name
from surehouse.errors import BadLine

DIGITS = "0123456789"
KINDS = ("house", "region", "item", "lane", "supply")
# How many lines of a kind there may be, and what stands in each behind its first word.
MOST_LINES = {"house": 5, "region": 5, "item": 5, "lane": 20, "supply": 14}
WORDS = {
    "house": ("name",),
    "region": ("name",),
    "item": ("name",),
    "lane": ("house", "region", "least", "most", "price"),
    "supply": ("name", "house", "item", "day", "count"),
}
LIMITS = {"least": (0, 9), "most": (0, 9), "price": (0, 99), "day": (0, 60), "count": (0, 99)}
LAST_DAY = 60
MOST_WORTH = 999
# How many words stand in an order's text ahead of its wishes, and how many there may be.
WORDS_AHEAD = 4
MOST_WORDS = 10


def parted(text):
    """The words of a text, parted by any number of spaces."""
    return [word for word in text.split(" ") if word != ""]


def number_in(word, least, most):
    """The number from least to most, at most 999, that a word stands for; None if it is none."""
    if not 1 <= len(word) <= 3 or not all([sign in DIGITS for sign in word]):
        return None
    number = int(word)
    # A number is written in one way only: without zeros ahead.
    return number if str(number) == word and least <= number <= most else None


def write_catalog(catalog):
    """The text of a catalog."""
    check_catalog(catalog)
    lines = []
    for kind, rows in zip(KINDS, catalog):
        for row in rows:
            values = row if isinstance(row, tuple) else (row,)
            lines.append(" ".join([kind] + [str(value) for value in values]))
    return "\n".join(lines)


def read_catalog(text):
    """The catalog that a text tells."""
    if not isinstance(text, str):
        raise BadLine(1, 1)
    found = {kind: [] for kind in KINDS}
    lines = text.split("\n")
    for number, line in enumerate(lines, 1):
        words = parted(line)
        if words:
            place = wrong_word(found, words)
            if place > 0:
                raise BadLine(number, place)
            found[words[0]].append(row_of(words))
    if not found["house"] or not found["region"] or not found["item"]:
        raise BadLine(len(lines) + 1, 1)
    names = [tuple([row[0] for row in found[kind]]) for kind in ("house", "region", "item")]
    return tuple(names) + (tuple(found["lane"]), tuple(found["supply"]))


def row_of(words):
    """The values in the words of a line that is known to be good."""
    return tuple([int(word) if meaning in LIMITS else word for meaning, word in zip(WORDS[words[0]], words[1:])])


def wrong_word(found, words):
    """The place, from 1, of the first word of a line that cannot stand there behind the lines found; 0 for none."""
    kind = words[0]
    if kind not in KINDS or len(found[kind]) >= MOST_LINES[kind]:
        return 1
    many = len(WORDS[kind])
    for place in range(1, many + 1):
        if place >= len(words) or not can_stand(found, words, place):
            return place + 1
    return many + 2 if len(words) > many + 1 else 0


def can_stand(found, words, place):
    """Whether a word of a line can stand at its place, behind those ahead of it."""
    kind = words[0]
    word = words[place]
    meaning = WORDS[kind][place - 1]
    if meaning in LIMITS:
        least, most = LIMITS[meaning]
        # The most days of a lane are no fewer than its least, which stand ahead.
        return number_in(word, int(words[place - 1]) if meaning == "most" else least, most) is not None
    if meaning == "name":
        return is_name(word) and word not in [row[0] for row in found[kind]]
    if kind == "lane" and meaning == "region" and (words[1], word) in [row[:2] for row in found["lane"]]:
        return False
    return word in [row[0] for row in found[meaning]]


def write_order(catalog, order):
    """The text of an order."""
    check_catalog(catalog)
    check_order(catalog, order)
    name, region, wishes, by, worth = order
    words = [name, region, str(by), str(worth)]
    for items, count in wishes:
        words.extend(["/".join(items), str(count)])
    return " ".join(words)


def read_order(catalog, text):
    """The order that a text tells."""
    check_catalog(catalog)
    if not isinstance(text, str):
        raise BadLine(1, 1)
    words = parted(text)
    for place, word in enumerate(words):
        if not can_stand_in_order(catalog, place, word):
            raise BadLine(1, place + 1)
    if len(words) < WORDS_AHEAD + 2 or len(words) % 2 == 1:
        raise BadLine(1, len(words) + 1)
    wishes = [(items_in(items), int(count)) for items, count in zip(words[WORDS_AHEAD::2], words[WORDS_AHEAD + 1::2])]
    return (words[0], words[1], tuple(wishes), int(words[2]), int(words[3]))


def items_in(word):
    """The items of a wish, with / between."""
    return tuple(word.split("/"))


def can_stand_in_order(catalog, place, word):
    """Whether a word can stand at a place, from 0, of an order's text."""
    if place >= MOST_WORDS:
        return False
    if place == 0:
        return is_name(word)
    if place == 1:
        return word in catalog[1]
    if place == 2:
        return number_in(word, 0, LAST_DAY) is not None
    if place == 3:
        return number_in(word, 0, MOST_WORTH) is not None
    return are_wished(catalog, items_in(word)) if place % 2 == 0 else number_in(word, 1, 99) is not None
