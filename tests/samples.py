"""Values that several test files share."""

# One value of each kind that may be passed for any argument, and some nested ones.
# None of them is a catalog, bundles, wants, an order, a wish, a name or a count from 1 on.
ODD_VALUES = (
    None, True, False, 0, -1, 10 ** 30, "", "Tea", "no such", [], {}, [()], {"a": 1}, {"tea": ()},
    (None,), (True,), (0,), ("",), ("a", None), ([],), ({},), ((),), ((), ()), ([["a"]],), ((((),),),),
)

CATALOG = (
    ("east", "west"),
    ("ra", "rb"),
    ("tea", "pot", "cup", "mat", "jar"),
    (("east", "ra", 1, 2, 5), ("west", "ra", 0, 9, 0), ("west", "rb", 3, 3, 99)),
    (("s", "east", "tea", 3, 4), ("t", "west", "cup", 60, 99), ("u", "west", "tea", 0, 0)),
)


def replaced(row, place, value):
    """The tuple with another value at a place."""
    return row[:place] + (value,) + row[place + 1:]


def letters(many):
    """So many unlike names of one letter."""
    return tuple("abcdefghijklmnopqrstuvwxyz"[:many])
