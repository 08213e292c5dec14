"""[60], [61]: cordrules/texts.py."""

import unittest
from itertools import product

from cordrules.breaches import keeps
from cordrules.errors import BadBook, BadForm, BadWords
from cordrules.filled import all_tables
from cordrules.likeness import forms_of
from cordrules.texts import (
    book_text, forms_text, read_book, read_forms, read_row, read_rule, row_text, rule_text)
from helpers import (
    A, B, CUSTOMS, NOTHING, beginning, deep, full, rows_to, some_rows, try_one, try_refusals, wrong_books, wrong_cords,
    wrong_customs, wrong_forms, wrong_rows, wrong_told_rules)

a, b, ra, rb = ("left", 0), ("left", 1), ("right", 0), ("right", 1)
BENT = ("", "?", "x", "l0", "L", "L00", "L-1", "L+1", "L01", "L9", "-0", "-1", "00", "01", "+1", "1.", "c", "c9", "c00",
        "c-0", "C0", "on ", "/ ", "//", "\n", "0\n", "%", "0+0", "+", "9+", "00+", "0*", "--", "=", "none", "any",
        "None", "Table", "9" * 1001, "-" + "9" * 1001, "_1", "1_0", "0x1")


def row_for(cords, many):
    return some_rows(cords, 1, many)[0]


def some_forms():
    """Forms with their cords and customs."""
    for cords in (2, 3, 5):
        for custom in CUSTOMS:
            for row in rows_to(cords, 2)[::3] + [row_for(cords, 7)]:
                yield cords, custom, forms_of(cords, row, custom)
    yield 2, "any", (("on", A, ("off", A, B)), ("off", ("on", B, B), A))
    yield 2, "began", (((-5, 10 ** 999), 1), ((0, -10 ** 999 + 1), 0))
    yield 2, "through", ((((0, 1), (1, 1), (0, -1)), 0), (((1, 1),) * 2000, 1))
    yield 2, "any", (deep(61), deep(3, A))
    yield 2, "any", (with_parts(1999), deep(3))
    yield 2, "back", (full(10), deep(3))


def some_rules():
    yield from all_tables(1, "any")
    yield from all_tables(2, "any")[::17]
    yield from all_tables(3, "back")[::40]
    yield ("table", ((199,) * 200,) * 200, (tuple(range(200)),) * 200)
    for modulus, weights in ((1, (0,)), (10 ** 6, (999999, 0, 5, 0, 1)), (7, (6, 6))):
        yield ("turns", modulus, weights)
    for acts in (((0,),), ((0,),) * 5, ((1, 2, 0), (0, 1, 2)), (tuple(range(4000, -1, -1)),)):
        yield ("acts", acts)


def some_books():
    yield ()
    yield ((2, (), ()),)
    yield ((3, (a, b), ()), (2, (), (ra,)))
    yield ((5, row_for(5, 60), row_for(5, 59)),) * 12


def with_parts(many):
    """A term with so many parts, an odd number."""
    if many == 1:
        return A
    half = (many - 1) // 2
    low = half if half % 2 else half - 1
    return ("on", with_parts(low), with_parts(many - 1 - low))


def refused(test, function, arguments, text, word):
    """Tries a text that must be refused at a word."""
    try:
        function(*arguments, text)
    except BadWords as caught:
        test.assertEqual((caught.line, caught.word), (0, word), text[:300])
        return
    test.fail("{} took {}".format(function.__name__, text[:300]))


def bend(test, function, arguments, text, some=1):
    """Tries a text with a word that never can stand in the place of each word, and put in there."""
    words = text.split(" ")
    for at in list(range(0, len(words), some)) + [len(words)]:
        for wrong in ("?", "", "9" * 1001):
            bent = words[:at] + [wrong] + words[at + 1:]
            refused(test, function, arguments, " ".join(bent), at)
            refused(test, function, arguments, " ".join(words[:at] + [wrong] + words[at:]), at)
        if at < len(words):
            refused(test, function, arguments, " ".join(words[:at] + [words[at] + "\n"] + words[at + 1:]), at)


def word_told(function, arguments, words):
    """The word that is told of words that are refused, None if they are read."""
    try:
        function(*arguments, " ".join(words))
    except BadWords as caught:
        return caught.word
    except BadForm:
        return None
    return None


def leave_out(test, function, arguments, text, write):
    """Tries a text without each of its words, and with each of them twice: what is told must stand by itself."""
    words = text.split(" ")
    for at in range(len(words)):
        for bent in (words[:at] + words[at + 1:], words[:at + 1] + words[at:]):
            wrong = word_told(function, arguments, bent)
            if wrong is None:
                if write is not None:
                    test.assertEqual(write(function(*arguments, " ".join(bent))), " ".join(bent))
                continue
            # The words ahead of it can stand, as if only further words lacked; it cannot.
            test.assertTrue(at <= wrong <= len(bent))
            if wrong > 0:
                test.assertIn(word_told(function, arguments, bent[:wrong]), (None, wrong))
            if wrong < len(bent):
                test.assertEqual(word_told(function, arguments, bent[:wrong + 1]), wrong)


class TestLeftOut(unittest.TestCase):
    def test_all_sorts(self):
        for cords in (2, 4):
            for row in some_rows(cords, 4, 5) + [()]:
                leave_out(self, read_row, (cords,), row_text(cords, row), lambda read, cords=cords: row_text(cords,
                read))
        for cords, custom, forms in list(some_forms())[::4]:
            text = forms_text(cords, custom, forms)
            if len(text) < 300:
                leave_out(self, read_forms, (cords,), text, None)
        for rule in list(some_rules())[::3]:
            if len(rule_text(rule)) < 300:
                leave_out(self, read_rule, (), rule_text(rule), rule_text)
        for book in list(some_books())[:3]:
            leave_out(self, read_book, (), book_text(book), book_text)

    def test_by_hand(self):
        for text, word in (("table 2 / 0 / 1 0 / 0 0 / 1 1", 4), ("table 2 0 1 / 1 0 / 0 0 / 1 1", 2),
                           ("2 / 0 1 / 1 0 / 0 0 / 1 1", 0), ("table / 0 1 / 1 0 / 0 0 / 1 1", 1),
                           ("table 2 / 0 1 / 1 0 / 0 0", 11), ("acts 3 / 1 2 / 0 1 2", 5), ("acts 3 / 1 2 0 0 1 2", 6),
                           ("acts / 1 2 0", 1), ("turns 5", 2), ("5 1 0", 0), ("turns 1", 2)):
            refused(self, read_rule, (), text, word)
        for text, word in (("on c0 c1 / c0", 0), ("any on c0 c1 / c0", 1), ("any / c0 c1 / c0", 3),
                           ("any / on c1 / c0", 4), ("any / on c0 / c0", 4), ("any / on c0 c1 c0", 5),
                           ("any / on c0 c1 /", 6), ("any / / c0", 2), ("any / on on c0 c1 / c0", 6)):
            refused(self, read_forms, (2,), text, word)
        for text, word in (("L0 R1 = - / 2 - = R0", 0), ("3 L0 R1 - / 2 - = R0", 3), ("3 L0 R1 = / 2 - = R0", 4),
                           ("3 L0 R1 = - 2 - = R0", 5), ("3 L0 R1 = - / - = R0", 6), ("3 = - / 2 - = R0", 1)):
            refused(self, read_book, (), text, word)


class TestRows(unittest.TestCase):
    def test_there_and_back(self):
        for cords in (2, 3, 5):
            texts = set()
            rows = rows_to(cords, 3 if cords < 4 else 2) + [row_for(cords, 60)]
            for row in rows:
                text = row_text(cords, row)
                texts.add(text)
                self.assertEqual(read_row(cords, text), row)
                bend(self, read_row, (cords,), text, 7)
            self.assertEqual(len(texts), len(rows))
        self.assertEqual(row_text(4, (a, ("right", 2))), "L0 R2")
        self.assertEqual(row_text(4, ()), "-")
        self.assertEqual(read_row(4, "L0 R2"), (a, ("right", 2)))
        self.assertEqual(read_row(4, "-"), ())

    def test_words(self):
        for word in BENT + ("L2", "R2", "L0L1", "-L0"):
            refused(self, read_row, (3,), word, 0)
            refused(self, read_row, (3,), "L0 " + word, 1)
            refused(self, read_row, (3,), "L0 R1 " + word + " ?", 2)
            refused(self, read_row, (3,), "- " + word, 1)
        refused(self, read_row, (3,), "L0 -", 1)
        refused(self, read_row, (3,), "- L0", 1)
        refused(self, read_row, (3,), " L0", 0)
        refused(self, read_row, (3,), "L0  L0", 1)
        refused(self, read_row, (3,), "L0\nL0", 0)
        self.assertEqual(len(read_row(2, " ".join(["L0"] * 60))), 60)
        refused(self, read_row, (2,), " ".join(["L0"] * 61), 60)
        refused(self, read_row, (2,), " ".join(["L0"] * 60 + ["?"] * 3), 60)


class TestForms(unittest.TestCase):
    def test_there_and_back(self):
        for cords, custom, forms in some_forms():
            text = forms_text(cords, custom, forms)
            self.assertEqual(read_forms(cords, text), (custom, forms))
            words = text.split(" ")
            if custom != "any" or len(words) < 200:
                bend(self, read_forms, (cords,), text, 1 + len(words) // 40)
        for custom in CUSTOMS:
            rows = rows_to(3, 3)
            all_forms = {forms_of(3, row, custom) for row in rows}
            self.assertEqual(len({forms_text(3, custom, forms) for forms in all_forms}), len(all_forms))

    def test_texts(self):
        for text, custom, forms in (
                ("any / on c0 c1 / c0", "any", (("on", A, B), A)),
                ("back / off on c0 c1 c0 / c1", "back", (("off", ("on", A, B), A), B)),
                ("through / 0+ 1+ 0- c0 / 0+ c1", "through", ((((0, 1), (1, 1), (0, -1)), 0), (((0, 1),), 1))),
                ("through / c1 / c0", "through", (((), 1), ((), 0))),
                ("began / 0 1 c0 / -1 0 c1", "began", (((0, 1), 0), ((-1, 0), 1))),
                ("twice / 1 0 c1 / 0 0 c0", "twice", (((1, 0), 1), ((0, 0), 0))),
                ("never / c1 / c0", "never", (1, 0))):
            self.assertEqual(forms_text(2, custom, forms), text)
            self.assertEqual(read_forms(2, text), (custom, forms))

    def test_lacking(self):
        for cords, custom, forms in list(some_forms())[::5]:
            words = forms_text(cords, custom, forms).split(" ")
            for many in range(1, len(words), 1 + len(words) // 20):
                refused(self, read_forms, (cords,), " ".join(words[:many]), many)
        refused(self, read_forms, (2,), "", 0)
        refused(self, read_forms, (2,), "any /", 2)

    def test_terms_beside_counting(self):
        alphabet = ("on", "off", "c0", "c1", "/", "c2", "")
        for custom in ("any", "back"):
            for many in range(1, 6):
                for words in product(alphabet, repeat=many):
                    words = (custom, "/") + words
                    text = " ".join(words)
                    wrong = wrong_by_counting(words)
                    if wrong is not None:
                        refused(self, read_forms, (2,), text, wrong)
                    elif custom == "any":
                        self.assertEqual(forms_text(2, *read_forms(2, text)), text)
        self.assertIsNone(wrong_by_counting("any / on c0 c1 / c0".split(" ")))
        self.assertEqual(wrong_by_counting("any / on c0 c1 / c1".split(" ")), 6)

    def test_sizes_of_terms(self):
        text = forms_text(2, "any", (deep(61), A)).split(" ")
        self.assertEqual(text[1:62], ["/"] + ["on", "c0"] * 30)
        refused(self, read_forms, (2,), " ".join(text[:2] + ["on", "c0"] + text[2:]), 122)
        refused(self, read_forms, (2,), "any / " + " ".join(["on"] * 61), 62)
        refused(self, read_forms, (2,), "any / " + " ".join(["on"] * 60), 62)
        longest = forms_text(2, "any", (with_parts(1999), deep(3))).split(" ")
        self.assertEqual(longest.index("/", 2), 2001)
        for at in (5, 1998, 2000):
            while longest[at] != "c0":
                at += 1
            # One part more is one too many, but only the last "on" cannot stand.
            bent = longest[:at] + ["on", "c0", "c0"] + longest[at + 1:]
            last = max(number for number in range(2003) if bent[number] == "on")
            refused(self, read_forms, (2,), " ".join(bent), last)
        few = with_parts(1997)
        self.assertEqual(read_forms(2, forms_text(2, "any", (("off", A, few), deep(3)))), (
            "any", (("off", A, few), deep(3))))

    def test_cords_and_counts(self):
        for text, word in (("any / c0 / c0", 4), ("any / c0 / on c1 c0", 6), ("never / c1 / c1", 4),
                           ("never / c0 / c2", 4), ("through / 0+ c0 / 0+ c0", 6), ("through / 0+ 0- c0 / c1", 3),
                           ("through / 0- 0+ c0", 3), ("through / 2+ c0", 2), ("through / 0+ / c1", 3),
                           ("through / 0+", 3), ("through / c0 0+", 3), ("began / 0 c0", 3), ("began / 0 0 0 c0", 4),
                           ("began / 0 0 c0 / 0 0 c0", 8), ("twice / 0 2 c0", 3), ("twice / -1 0 c0", 2),
                           ("twice / 1 1 c0 / 0 1", 8), ("began / -0 0 c0", 2), ("began / 0 00 c0", 3),
                           ("began / 1 1 1", 4), ("Never / c0 / c1", 0), ("never c0 c1", 1), ("never / c0 c1", 3),
                           ("never / c0 / c1 /", 5), ("never / c0 / c1 / c0", 5), ("other / c0", 0), ("any", 1),
                           ("through / 00 c0", 2), ("through / 0 c0", 2),
                           ("through / 0+ 1- 1+ c0", 4)):
            refused(self, read_forms, (2,), text, word)
        for word in [one for one in BENT if " " not in one]:
            for custom, begun in (("any", ""), ("any", "on "), ("through", ""), ("through", "0+ "), ("never", ""),
                                  ("began", ""), ("began", "0 "), ("twice", ""), ("twice", "0 1 ")):
                if custom == "began" and word in ("-1",):
                    continue
                at = 2 + len(begun.split(" ")) - 1
                refused(self, read_forms, (2,), custom + " / " + begun + word + " / c1", at)
        for custom, text in (("never", "c{}"), ("any", "on c2 c{}"), ("began", "0 0 0 c{}"), ("through", "0+ c{}")):
            for order, wrong in (((0, 1, 1), 2), ((0, 1, 0), 2), ((2, 2, 0), 1), ((1, 0, 2), None)):
                places = [text.format(cord) for cord in order]
                told = custom + " / " + " / ".join(places)
                if wrong is None:
                    self.assertEqual(read_forms(3, told)[0], custom)
                else:
                    size = len(places[0].split(" ")) + 1
                    refused(self, read_forms, (3,), told, (wrong + 1) * size)
        self.assertEqual(read_forms(2, "through / 0+ 0+ 1- 0- c0 / c1")[1][0][0], ((0, 1), (0, 1), (1, -1), (0, -1)))
        longest = "through / " + "0+ " * 2000
        self.assertEqual(len(read_forms(2, longest + "c0 / c1")[1][0][0]), 2000)
        refused(self, read_forms, (2,), longest + "0+ c0 / c1", 2002)
        refused(self, read_forms, (2,), longest + "1+ c0 / c1", 2002)
        for digits in (1000, 1001):
            for sign in ("", "-"):
                text = "began / " + sign + "9" * digits + " 0 c0 / 0 0 c1"
                if digits == 1000:
                    self.assertEqual(read_forms(2, text)[1][0][0], (int(sign + "9" * 1000), 0))
                else:
                    refused(self, read_forms, (2,), text, 2)

    def test_not_least(self):
        for text, place in (("back / on c0 off c0 c1 / c0", 0), ("back / c0 / on c0 off c0 c1", 1),
                            ("back / on c0 off c0 c1 / on c0 off c0 c0", 0)):
            try_one(self, read_forms, {"cords": 2, "text": text}, text, BadForm, place)
            self.assertEqual(read_forms(2, text.replace("back", "any"))[0], "any")
        refused(self, read_forms, (2,), "back / on c0 off c0 c1 / c1", 8)
        refused(self, read_forms, (2,), "back / on c0 off c0 c1 / c0 ?", 9)


def wrong_by_counting(words):
    """The first word that cannot stand in forms of two cords by "any", by counting what is still to come."""
    at, taken = 1, []
    for _ in range(2):
        if at == len(words) or words[at] != "/":
            return at
        at += 1
        missing = 1
        while missing:
            if at == len(words) or words[at] not in ("on", "off", "c0", "c1"):
                return at
            missing += 1 if words[at] in ("on", "off") else -1
            if missing == 0:
                # The last word of a term is the cord that it comes from.
                if words[at] in taken:
                    return at
                taken.append(words[at])
            at += 1
    return at if at < len(words) else None


class TestRules(unittest.TestCase):
    def test_there_and_back(self):
        texts = set()
        rules = list(some_rules())
        for rule in rules:
            text = rule_text(rule)
            texts.add(text)
            self.assertEqual(read_rule(text), rule)
            self.assertTrue(keeps(read_rule(text), "any"))
            words = text.split(" ")
            if len(words) < 2000:
                bend(self, read_rule, (), text)
            else:
                for at in (2, 3, 777, len(words) - 1):
                    refused(self, read_rule, (), " ".join(words[:at] + ["?"] + words[at + 1:]), at)
                    refused(self, read_rule, (), " ".join(words[:at]), at)
        self.assertEqual(len(texts), len(rules))

    def test_texts(self):
        for text, rule in (("table 2 / 0 1 / 1 0 / 0 0 / 1 1", ("table", ((0, 1), (1, 0)), ((0, 0), (1, 1)))),
                           ("acts 3 / 1 2 0 / 0 1 2", ("acts", ((1, 2, 0), (0, 1, 2)))),
                           ("turns 5 1 0 4", ("turns", 5, (1, 0, 4))), ("acts 1 / 0", ("acts", ((0,),))),
                           ("table 1 / 0 / 0", ("table", ((0,),), ((0,),)))):
            self.assertEqual(rule_text(rule), text)
            self.assertEqual(read_rule(text), rule)

    def test_words(self):
        for text, word in (("", 0), ("table", 1), ("table 0", 1), ("table 201", 1), ("table 200", 2), ("table 2", 2),
                           ("table 2 0", 2), ("table 2 / 0 2", 4), ("table 2 / 0 -1", 4), ("table 2 / 0", 4),
                           ("table 2 / 0 1 0", 5), ("table 2 / 0 1 /", 6), ("table 1 / 0", 4), ("table 1 / 0 / 0 /", 6),
                           ("table 1 / 0 / 0 0", 6), ("table 1 / 0 / 0 ", 6), ("table 1 /  0", 3), ("acts", 1),
                           ("acts 0", 1), ("acts 4002", 1), ("acts 4001", 2), ("acts 2 0", 2), ("acts 2 /", 3),
                           ("acts 2 / 0 0", 4), ("acts 2 / 0 2", 4), ("acts 2 / 1 0 1", 5), ("acts 2 / 1 0 /", 6),
                           ("acts 2 / 1", 4), ("acts 1" + " / 0" * 6, 12), ("acts 1" + " / 0" * 5 + " 0", 12),
                           ("turns", 1), ("turns 0", 1), ("turns 1000001", 1), ("turns 1000000", 2), ("turns 3", 2),
                           ("turns 3 3", 2), ("turns 3 -1", 2), ("turns 3 0 1 2 0 1 2", 7), ("turns 3 0 1 2 0 1 ", 7),
                           ("turns 3 0 /", 3), ("turns 3 00", 2), ("turns 3 0 3", 3), ("other 3", 0),
                           ("Table 1 / 0 / 0", 0), (" table 1 / 0 / 0", 0), ("acts 2 / 01 0", 3), ("turns 03 0", 1)):
            refused(self, read_rule, (), text, word)
        for word in BENT:
            refused(self, read_rule, (), word, 0)
            for begun in ("table", "acts", "turns", "turns 5"):
                refused(self, read_rule, (), begun + " " + word, len(begun.split(" ")))


class TestBooks(unittest.TestCase):
    def test_there_and_back(self):
        texts = set()
        for book in some_books():
            text = book_text(book)
            texts.add(text)
            self.assertEqual(read_book(text), book)
            bend(self, read_book, (), text, 1 + len(text) // 300)
        self.assertEqual(len(texts), 4)
        self.assertEqual(book_text(((3, (a, rb), ()), (2, (), (ra,)))), "3 L0 R1 = - / 2 - = R0")
        self.assertEqual(book_text(()), "none")
        self.assertEqual(read_book("none"), ())

    def test_words(self):
        for text, word in (("", 0), ("none none", 1), ("none / 2 - = -", 1), ("none ", 1), ("2", 1), ("2 -", 2),
                           ("2 - =", 3), ("2 - = - /", 5), ("2 - = - / none", 5), ("2 - - = -", 2), ("2 - L0 = -", 2),
                           ("2 = -", 1), ("2 L0 - = -", 2), ("2 L1 = -", 1), ("2 L0 = L1", 3), ("1 - = -", 0),
                           ("6 - = -", 0), ("02 - = -", 0), ("2 - = - 2 - = -", 4), ("2 L0 / L0", 2), ("2 L0 = L0 =",
                           4), ("3 L1 = - / 2 L1 = -", 6), ("2 - = - ", 4), ("- = -", 0), ("2 - = - / / 2 - = -", 5)):
            refused(self, read_book, (), text, word)
        just = " / ".join(["2 - = -"] * 12)
        self.assertEqual(len(read_book(just)), 12)
        refused(self, read_book, (), just + " / 2 - = -", 59)
        refused(self, read_book, (), just + " /", 59)
        sixty = " ".join(["L0"] * 60)
        self.assertEqual(len(read_book("2 " + sixty + " = " + sixty)[0][2]), 60)
        refused(self, read_book, (), "2 " + sixty + " L0 = -", 61)
        refused(self, read_book, (), "2 - = " + sixty + " L0", 63)


class TestRefusals(unittest.TestCase):
    def test_writing(self):
        try_refusals(self, row_text, ("cords", 3, wrong_cords()), ("row", (a, b), wrong_rows(3)))
        for custom in CUSTOMS:
            try_refusals(self, forms_text, ("cords", 2, wrong_cords()), ("custom", custom, wrong_customs()),
                         ("forms", beginning(2, custom), wrong_forms(custom)))
        try_refusals(self, rule_text, ("rule", ("turns", 2, (1,)), wrong_told_rules()))
        try_refusals(self, book_text, ("book", ((2, (a,), ()),), wrong_books()))
        try_one(self, book_text, {"book": (None,)}, 0, BadBook, 0)

    def test_reading(self):
        for function, arguments, good in ((read_row, (2,), "L0"), (read_forms, (2,), "never / c0 / c1"),
                                          (read_rule, (), "turns 1 0"), (read_book, (), "none")):
            self.assertEqual(function(*arguments, good), function(*arguments, text=good))
            for value in (None, True, 0, 7, (), ("L0",), ["none"], {}, b"none", NOTHING):
                try:
                    function(*arguments, value)
                except BadWords as caught:
                    self.assertEqual((caught.line, caught.word), (None, None))
                else:
                    self.fail(value)
        for function in (read_row, read_forms):
            for value, error, field in wrong_cords():
                for text in ("-", None, "?"):
                    try_one(self, function, {"cords": value, "text": text}, value, error, field)


if __name__ == "__main__":
    unittest.main()
