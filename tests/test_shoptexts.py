"""Catalogs and orders as texts (points 27 and 28, surehouse/shoptexts.py)."""

import copy
import random
import unittest

from draws import drawn_catalog, drawn_order, great_case
from samples import CATALOG, ODD_VALUES, letters, replaced
from surehouse import shoptexts
from surehouse.catalogs import is_catalog
from surehouse.errors import BadCatalog, BadLine, BadOrder
from surehouse.shoptexts import read_catalog, read_order, write_catalog, write_order

TEXT = """house east
house west
region ra
region rb
item tea
item pot
item cup
item mat
item jar
lane east ra 1 2 5
lane west ra 0 9 0
lane west rb 3 3 99
supply s east tea 3 4
supply t west cup 60 99
supply u west tea 0 0"""
HEAD = "house east\nregion ra\nitem tea\n"
LEAST = (("east",), ("ra",), ("tea",), (), ())
ORDER = ("o", "ra", ((("tea", "pot"), 4), (("cup",), 99), (("jar", "mat", "tea"), 1)), 60, 0)

# What is no number from 0 to a limit of one or two digits.
NO_NUMBERS = ("-1", "+1", "-0", "00", "01", "1.0", "1e1", "x", "0x1", "1_0", "100", "9" * 5000, "1,", "None", "True",
              "\t1", "1\r")
NO_NAMES = ("East", "1a", "a23456789", "a-b", "a_b", "a\t", "a\r", "A", "9", "a/b", ".")


class TextTest(unittest.TestCase):

    def wrong(self, line, word, function, *arguments):
        with self.subTest(arguments=arguments):
            with self.assertRaises(BadLine) as caught:
                function(*arguments)
            self.assertEqual((caught.exception.line, caught.exception.word), (line, word), arguments)


class CatalogTextTest(TextTest):

    def bad(self, line, word, text):
        self.wrong(line, word, read_catalog, text)

    def bad_line(self, word, line, head=HEAD):
        """This line behind the head has this word as its first wrong one; so it has among other lines, too."""
        at = head.count("\n")
        self.bad(at + 1, word, head + line)
        self.bad(at + 3, word, head + "\n  \n" + line + "\nshed x\nitem 5")

    def test_defined_in_their_file(self):
        for function in (write_catalog, read_catalog, write_order, read_order):
            self.assertEqual(function.__module__, shoptexts.__name__)

    def test_examples(self):
        self.assertEqual(read_catalog("house a\nregion b\nitem c\nlane a b 0 1 2"),
                         (("a",), ("b",), ("c",), (("a", "b", 0, 1, 2),), ()))
        self.bad(1, 1, "shed a")

    def test_written_and_read(self):
        self.assertEqual(write_catalog(CATALOG), TEXT)
        self.assertEqual(read_catalog(TEXT), CATALOG)
        self.assertEqual(write_catalog(LEAST), HEAD[:-1])
        self.assertEqual(read_catalog(HEAD), LEAST)

    def test_drawn_catalogs_are_read_back(self):
        draw = random.Random(27)
        cases = [great_case(seed)[0] for seed in range(5)]
        cases += [drawn_catalog(draw, houses=5, regions=4, items=5, supplies=14, count=99, last=60, slow=9)
                  for _ in range(200)]
        for catalog in cases:
            self.assertTrue(is_catalog(catalog))
            text = write_catalog(catalog)
            self.assertEqual(read_catalog(text), catalog)
            self.assertEqual(len(text.split("\n")), sum(len(rows) for rows in catalog))
            self.assertEqual(text, "\n".join([" ".join(line.split()) for line in text.split("\n")]))
            self.assertEqual(read_catalog(self.strewn(draw, text)), catalog)

    def strewn(self, draw, text):
        """The text with more spaces and void lines."""
        lines = []
        for line in text.split("\n"):
            lines += [" " * draw.randint(0, 3) for _ in range(draw.choice((0, 0, 1, 2)))]
            words = line.split(" ")
            lines.append(" " * draw.randint(0, 2) + "".join([word + " " * draw.randint(1, 3) for word in words]))
        return "\n".join(lines + [""] * draw.randint(0, 2))

    def test_lines_in_another_order(self):
        text = "\n".join([
            "item tea", "house west", "supply t west tea 1 2", "region ra", "lane west ra 0 1 2", "house east",
            "item pot", "supply s east tea 3 4", "region rb", "lane east ra 5 6 7", "lane west rb 0 0 0",
            "supply u west pot 0 9"])
        self.assertEqual(read_catalog(text), (
            ("west", "east"), ("ra", "rb"), ("tea", "pot"),
            (("west", "ra", 0, 1, 2), ("east", "ra", 5, 6, 7), ("west", "rb", 0, 0, 0)),
            (("t", "west", "tea", 1, 2), ("s", "east", "tea", 3, 4), ("u", "west", "pot", 0, 9))))

    def test_names_that_do_not_stand_ahead(self):
        self.bad(1, 2, "lane east ra 0 0 0\n" + HEAD)
        self.bad(2, 3, "house east\nlane east ra 0 0 0\nregion ra\nitem tea")
        self.bad(2, 3, "item tea\nsupply s east tea 0 0\nhouse east\nregion ra")
        self.bad(2, 4, "house east\nsupply s east tea 0 0\nitem tea\nregion ra")

    def test_first_words(self):
        for word in ("shed", "House", "houses", "lanes", "-", "5", "house\t", "\t", "house\r", "#", "east", "order"):
            self.bad_line(1, word)
            self.bad_line(1, word + " x 1")

    def test_words_of_houses_regions_and_items(self):
        for kind, name in (("house", "east"), ("region", "ra"), ("item", "tea")):
            self.bad_line(2, kind)
            self.bad_line(2, f"  {kind}  ")
            for word in NO_NAMES + (name,):
                self.bad_line(2, f"{kind} {word}")
                self.bad_line(2, f"{kind} {word} x")
            self.bad_line(3, f"{kind} b c")
            self.bad_line(3, f"{kind} b {kind}")
        # One name may stand for a house, a region, an item and a supply.
        text = "house a\nregion a\nitem a\nsupply a a a 0 1\nlane a a 0 0 0"
        self.assertEqual(read_catalog(text), (("a",), ("a",), ("a",), (("a", "a", 0, 0, 0),), (("a", "a", "a", 0, 1),)))
        self.assertEqual(read_catalog(HEAD + "house a2345678")[0], ("east", "a2345678"))

    def words_of(self, kind, words, limits):
        """Each word of a line of the kind is looked at: these are good, with their limits behind the names."""
        line = [kind] + words
        names = len(words) - len(limits)
        for many in range(1, len(line)):
            self.bad_line(many + 1, " ".join(line[:many]))
        self.bad_line(len(line) + 1, " ".join(line + ["0"]))
        self.bad_line(len(line) + 1, " ".join(line + ["x", "y"]))
        for place, (least, most) in enumerate(limits, names + 1):
            for word in NO_NUMBERS + (str(most + 1), str(least - 1)):
                self.bad_line(place + 1, " ".join(replaced(tuple(line), place, word)))
                self.bad_line(place + 1, " ".join(line[:place] + [word]))
                self.bad_line(place + 1, " ".join(line[:place] + [word] + ["?"] * 9))
            for number in (least, most):
                good = replaced(tuple(line), place, str(number))
                self.assertEqual(read_catalog(HEAD + " ".join(good))[3 if kind == "lane" else 4][0][place - 1], number)

    def test_words_of_lanes(self):
        self.words_of("lane", ["east", "ra", "0", "9", "7"], [(0, 9), (0, 9), (0, 99)])
        for word in NO_NAMES + ("west", "ra", "tea"):
            self.bad_line(2, f"lane {word} ra 0 0 0")
        for word in NO_NAMES + ("rb", "east", "tea"):
            self.bad_line(3, f"lane east {word} 0 0 0")
        self.bad_line(2, "lane ra east 0 0 0")

    def test_least_and_most_days(self):
        for least in range(10):
            for most in range(10):
                line = f"lane east ra {least} {most} 1"
                if least <= most:
                    self.assertEqual(read_catalog(HEAD + line)[3], (("east", "ra", least, most, 1),))
                else:
                    self.bad_line(5, line)
        self.bad_line(4, "lane east ra 10 10 1")
        self.bad_line(5, "lane east ra 9 10 1")

    def test_a_lane_that_stands_already(self):
        head = HEAD + "house west\nregion rb\nlane east ra 0 0 0\n"
        self.bad_line(3, "lane east ra 0 0 0", head)
        self.bad_line(3, "lane east ra 1 2 3", head)
        self.bad_line(3, "lane east ra x", head)
        self.bad_line(3, "lane east ra", head)
        self.assertEqual(len(read_catalog(head + "lane east rb 0 0 0\nlane west ra 0 0 0")[3]), 3)

    def test_words_of_supplies(self):
        self.words_of("supply", ["s", "east", "tea", "7", "7"], [(0, 60), (0, 99)])
        head = HEAD + "supply t east tea 0 0\n"
        for word in NO_NAMES + ("t",):
            self.bad_line(2, f"supply {word} east tea 0 0", head)
        for word in NO_NAMES + ("west", "ra", "tea", "t"):
            self.bad_line(3, f"supply s {word} tea 0 0", head)
        for word in NO_NAMES + ("pot", "ra", "east", "t"):
            self.bad_line(4, f"supply s east {word} 0 0", head)

    def test_one_line_too_many(self):
        names = letters(15)
        lists = {kind: [f"{kind} {name}" for name in names] for kind in ("house", "region", "item")}
        for kind, lines in lists.items():
            text = "\n".join([line for other in lists if other != kind for line in lists[other][:1]] + lines[:5])
            self.assertEqual(len(read_catalog(text)[("house", "region", "item").index(kind)]), 5)
            for line in (lines[5], lines[0], kind, kind + " ?"):
                self.bad(8, 1, text + "\n" + line)
        head = "\n".join([line for lines in lists.values() for line in lines[:5]])
        lanes = [f"lane {house} {region} 0 0 0" for house in names[:5] for region in names[:5]]
        self.assertEqual(len(read_catalog("\n".join([head] + lanes[:20]))[3]), 20)
        self.bad(36, 1, "\n".join([head] + lanes[:21]))
        self.bad(36, 1, "\n".join([head] + lanes[:20] + ["lane"]))
        supplies = [f"supply {name} a a 0 0" for name in names]
        self.assertEqual(len(read_catalog("\n".join([head] + supplies[:14]))[4]), 14)
        self.bad(30, 1, "\n".join([head] + supplies[:15]))

    def test_no_house_region_or_item(self):
        self.bad(2, 1, "")
        self.bad(2, 1, "   ")
        self.bad(3, 1, "\n")
        self.bad(4, 1, "\n\n")
        lines = HEAD.split("\n")[:3]
        for place in range(3):
            rest = lines[:place] + lines[place + 1:]
            self.bad(3, 1, "\n".join(rest))
            self.bad(4, 1, "\n".join(rest + [""]))
            self.bad(4, 1, "\n".join([" "] + rest))
            self.bad(2, 1, lines[place])
        # A wrong word comes ahead of that.
        self.bad(1, 2, "house")
        self.bad(2, 3, "house a\nhouse b c")

    def test_the_first_wrong_word_of_all(self):
        self.bad(2, 3, "house a\nregion b c\nshed")
        self.bad_line(2, "lane west rb 10 10 100")
        self.bad_line(3, "lane east rb 10")
        self.bad_line(4, "lane east ra 10 5 100 9")

    def test_what_is_no_string(self):
        for value in ODD_VALUES + (("house a",), ["house a"]):
            if not isinstance(value, str):
                self.bad(1, 1, value)

    def test_other_signs_part_no_words_and_lines(self):
        self.bad(1, 1, "house\ta")
        self.bad(1, 2, "house a\r\nregion b")
        self.bad(1, 2, "house a\x0bregion b")
        self.bad(4, 4, HEAD + "lane east ra \u0663 5 1")
        self.bad(4, 4, HEAD + "lane east ra \u00b2 5 1")

    def test_wrong_catalogs(self):
        for value in ODD_VALUES + (list(CATALOG), CATALOG[:4]):
            self.assertRaises(BadCatalog, write_catalog, value)


class OrderTextTest(TextTest):

    def bad(self, word, text):
        self.wrong(1, word, read_order, CATALOG, text)

    def test_written_and_read(self):
        text = "o ra 60 0 tea/pot 4 cup 99 jar/mat/tea 1"
        self.assertEqual(write_order(CATALOG, ORDER), text)
        self.assertEqual(read_order(CATALOG, text), ORDER)
        self.assertEqual(read_order(CATALOG, "  o   ra 60 0  tea/pot 4 cup 99 jar/mat/tea   1 "), ORDER)
        self.assertEqual(read_order(CATALOG, "o rb 0 999 tea 1"), ("o", "rb", ((("tea",), 1),), 0, 999))

    def test_drawn_orders_are_read_back(self):
        draw = random.Random(28)
        for _ in range(300):
            catalog = drawn_catalog(draw, items=5)
            order = drawn_order(draw, catalog, "o", wishes=3, count=99, last=60)
            self.assertEqual(read_order(catalog, write_order(catalog, order)), order)
        catalog, orders = great_case(1)
        for order in orders:
            self.assertEqual(read_order(catalog, write_order(catalog, order)), order)

    def test_words_lacking(self):
        words = "o ra 60 0 tea/pot 4 cup 99 jar/mat/tea 1".split()
        for many in range(len(words) + 1):
            text = " ".join(words[:many])
            if many in (6, 8, 10):
                self.assertEqual(len(read_order(CATALOG, text)[2]), (many - 4) // 2)
            else:
                self.bad(many + 1, text)
                self.bad(many + 1, "   ".join([""] + words[:many] + [""]))

    def test_a_fourth_wish(self):
        for more in ("tea 1", "tea", "x", "1", "?"):
            self.bad(11, "o ra 60 0 tea 4 cup 99 jar 1 " + more)

    def test_each_word(self):
        good = "o ra 5 5 tea 5 cup 5".split()
        wrong = {0: NO_NAMES, 1: NO_NAMES + ("rc", "east", "o", "tea"), 2: NO_NUMBERS + ("61",),
                 3: tuple([word for word in NO_NUMBERS if word != "100"]) + ("1000", "0999"),
                 5: NO_NUMBERS + ("0",), 7: NO_NUMBERS + ("0",)}
        for place in (4, 6):
            wrong[place] = ("teas", "5", "ra", "east", "/", "tea/", "/tea", "tea//cup", "tea/tea", "tea/cup/tea",
                            "tea/no", "tea/pot/cup/mat", "tea,cup", "Tea", "tea/Cup", "tea\n")
        for place, words in wrong.items():
            for word in words:
                self.bad(place + 1, " ".join(good[:place] + [word] + good[place + 1:]))
                self.bad(place + 1, " ".join(good[:place] + [word]))
                self.bad(place + 1, " ".join(good[:place] + [word] + ["?"] * 9))

    def test_numbers_at_their_limits(self):
        for by, worth, count in ((0, 0, 1), (60, 999, 99), (9, 10, 10)):
            self.assertEqual(read_order(CATALOG, f"o ra {by} {worth} tea {count}"),
                             ("o", "ra", ((("tea",), count),), by, worth))

    def test_items_of_a_wish(self):
        for items in ("tea", "tea/pot", "pot/tea", "mat/jar/cup"):
            self.assertEqual(read_order(CATALOG, f"o ra 5 5 {items} 1")[2], ((tuple(items.split("/")), 1),))

    def test_lines_are_not_parted(self):
        self.bad(1, "o\nra 5 5 tea 1")
        self.bad(6, "o ra 5 5 tea 1\n")
        self.bad(1, "\n")

    def test_what_is_no_string(self):
        for value in ODD_VALUES + (ORDER, ["o ra 5 5 tea 1"]):
            if not isinstance(value, str):
                self.bad(1, value)
        self.bad(1, "")
        self.bad(1, "    ")

    def test_wrong_catalogs_and_orders(self):
        for value in ODD_VALUES:
            self.assertRaises(BadCatalog, write_order, value, ORDER)
            self.assertRaises(BadCatalog, write_order, value, None)
            self.assertRaises(BadCatalog, read_order, value, "o ra 5 5 tea 1")
            self.assertRaises(BadCatalog, read_order, value, None)
            self.assertRaises(BadOrder, write_order, CATALOG, value)
        self.assertRaises(BadOrder, write_order, CATALOG, replaced(ORDER, 3, 61))
        self.assertRaises(BadOrder, write_order, CATALOG, list(ORDER))

    def test_arguments_stay(self):
        before = copy.deepcopy((CATALOG, ORDER))
        self.assertEqual(write_order(CATALOG, ORDER), write_order(CATALOG, ORDER))
        write_catalog(CATALOG)
        self.assertEqual((CATALOG, ORDER), before)


if __name__ == "__main__":
    unittest.main()
