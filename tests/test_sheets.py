"""[62], [63]: cordrules/sheets.py."""

import unittest

from cordrules.again import period
from cordrules.books import book_numbers
from cordrules.breaches import keeps
from cordrules.doings import what_parts
from cordrules.errors import BadCustom, BadWords, TooGreat
from cordrules.follow import does_follow
from cordrules.likeness import are_alike, forms_of, weakest_custom
from cordrules.past import goes_past
from cordrules.plain import does_rule_follow
from cordrules.rows import order_of
from cordrules.sheets import judged, sheet_told
from cordrules.steps import fewest
from cordrules.texts import book_text, forms_text, row_text, rule_text
from helpers import CUSTOMS, FAR_LONG, LONG, NOTHING, some_rows, try_great
from seeing import COPY, MARKS, mixed, still, turning

a, b, ra, rb = ("left", 0), ("left", 1), ("right", 0), ("right", 1)
BOOK_CUSTOMS = ("began", "twice", "never")
ROWS = {"a": (a, b, a), "b": (b, a, b), "c": (a, a), "d": (), "e": (a, ra, b, rb), "full": (a, b) * 2, "g": (a, b, b,
    ra)}
RULES = {"a": COPY, "copy": MARKS, "turn": ("turns", 6, (1, 4)), "three": turning(3), "acts": ("acts", ((1, 2, 0),)),
         "still": still(2), "eightabc": ("turns", 2, (1, 1))}
BOOKS = {"a": (), "b": ((3, (a, a), ()),), "unlike": ((2, (a,), ()),), "two": ((2, (a,) * 6, (ra,) * 6), (3, (), ())),
         "both": ((3, (a, b, a), (b, a, b)),)}


def whole_sheet(claims):
    """A sheet of three cords with all these rows, rules and books, and some claims."""
    lines = ["cords 3"]
    lines += ["row " + name + " " + row_text(3, row) for name, row in ROWS.items()]
    lines += ["rule " + name + " " + rule_text(rule) for name, rule in RULES.items()]
    lines += ["book " + name + " " + book_text(book) for name, book in BOOKS.items()]
    return "\n".join(lines + list(claims))


def word_of(value):
    return "none" if value is None else str(value)


def row_claims():
    """Claims on one row or two, with whether they are so."""
    for name, row in ROWS.items():
        for order in ("0 1 2", "1 2 0", "2 1 0", "0 2 1"):
            yield "order {} {}".format(name, order), " ".join(map(str, order_of(3, row))) == order
        for custom in CUSTOMS:
            for number in range(9):
                yield "length {} {} {}".format(custom, name, number), fewest(3, row, custom) == number
            for far, other in list(ROWS.items())[::2]:
                names = " ".join((custom, name, far))
                yield "alike " + names, are_alike(3, row, other, custom)
                yield "past " + names, goes_past(3, row, other, custom)
                for place in (0, 2):
                    form = forms_text(3, custom, forms_of(3, other, custom)).split(" / ")[place + 1]
                    found = forms_of(3, row, custom)[place] == forms_of(3, other, custom)[place]
                    yield "form {} {} {} {}".format(custom, name, place, form), found
            if custom != "back":
                for number in (None, 0, 1, 2, 3, 4, 6):
                    yield "period {} {} {}".format(custom, name, word_of(number)), period(3, row, custom) == number
        for far, other in ROWS.items():
            for custom in CUSTOMS + (None,):
                claim = "weakest {} {} {}".format(name, far, word_of(custom))
                yield claim, weakest_custom(3, row, other) == custom


def other_claims():
    """Claims on rules and books, with whether they are so."""
    for name, book in BOOKS.items():
        for custom in BOOK_CUSTOMS:
            for told in (None, (0, 0), (2, 2), (1, 1), (2, 4), (6, 6), (0, 6)):
                text = "none" if told is None else "{} {}".format(*told)
                yield "numbers {} {} {}".format(name, custom, text), book_numbers(custom, book) == told
            for far, row in ROWS.items():
                for last in ("c", "d", "a"):
                    good = does_follow(3, row, ROWS[last], custom, book)
                    yield "follows {} {} {} {}".format(name, custom, far, last), good
        for far, rule in RULES.items():
            yield "bears {} {}".format(far, name), keeps(rule, "began") and does_rule_follow(rule, book)
    for name, rule in RULES.items():
        for custom in CUSTOMS:
            yield "keeps {} {}".format(name, custom), keeps(rule, custom)
        for far in ("a", "c", "g"):
            for last in ("b", "d", "g"):
                good = rule[0] == "table" and what_parts(3, ROWS[far], ROWS[last], rule) is not None
                yield "parts {} {} {}".format(name, far, last), good


class TestClaims(unittest.TestCase):
    def test_beside_the_functions(self):
        for claims in (list(row_claims()), list(other_claims())):
            sorts = {claim.split(" ")[0]: set() for claim, _ in claims}
            for claim, good in claims:
                sorts[claim.split(" ")[0]].add(good)
            self.assertEqual(set(map(frozenset, sorts.values())), {frozenset((True, False))})
            for begun in range(0, len(claims), 50):
                some = claims[begun:begun + 50]
                text = whole_sheet([claim for claim, _ in some])
                found = judged(text)
                for (claim, good), so in zip(some, found):
                    self.assertIs(so, good, claim)
        self.assertEqual(judged(whole_sheet(())), ())

    def test_not_least(self):
        text = "cords 2\nrow a L0\nform back a 0 on c0 c1\nform back a 0 on c0 off c0 on c0 c1\nform any a 0 on c0 c1"
        self.assertEqual(judged(text), (True, False, True))
        self.assertEqual(judged("cords 2\nrow a -\nform back a 0 c0\nform back a 0 on c1 off c1 c0\n"
                                "form through a 1 c1\nform through a 1 1+ c1\nform never a 0 c1"),
                         (True, False, True, False, False))

    def test_names_that_are_not_there(self):
        lines = ["order z 0 1", "alike any a z", "alike any z a", "weakest z z none", "form any z 0 c0",
                 "length any z 0", "period any z none", "past any a z", "follows z began a a", "follows b began a z",
                 "numbers z never none", "keeps z any", "bears z b", "bears u z", "parts z a a", "parts u a z",
                 "keeps a any", "bears b u", "order u 0 1", "numbers u never 1 1"]
        text = "cords 2\nrow a -\nrule u turns 1 0\nbook b none\n" + "\n".join(lines)
        self.assertEqual(judged(text), (False,) * len(lines))
        long_one = "row a " + row_text(2, (a,) * 40)
        self.assertEqual(judged("cords 2\n" + long_one + "\nform any z 0 c0\nalike any a z"), (False, False))

    def test_too_great(self):
        long_rows = "\nrow a {}\nrow b {}\n".format(row_text(3, LONG), row_text(3, FAR_LONG))
        for claim in ("alike through a b", "alike through b a", "form any a 0 c0", "form back a 2 c0",
                      "form through a 0 c0", "length back a 3", "length any a 60", "period through a none",
                      "past through a b", "weakest a b none"):
            text = "cords 3" + long_rows + claim
            if claim == "length any a 60":
                self.assertEqual(judged(text), (True,))
            else:
                try_great(self, 2000, judged, text)
            self.assertEqual(sheet_told(text)[0], 3)
            self.assertRaises(BadWords, judged, text + "\n?")
        for cords, many, great in ((2, 16, False), (2, 17, True), (5, 3, False), (5, 4, True)):
            text = "cords {}\nrow a L0\nrow b -\nrule u {}\nparts u a b".format(cords, rule_text(still(many)))
            if great:
                try_great(self, 256, judged, text)
            else:
                self.assertEqual(judged(text), (True,))
            self.assertEqual(judged(text.replace("parts u a b", "parts u a z")), (False,))
        # Claims are judged one by one: what an earlier one raises is told.
        great = rule_text(still(17))
        text = "cords 2\nrow a {}\nrule u {}\n".format(row_text(2, (a,) * 60), great)
        try_great(self, 256, judged, text + "parts u a a\nform any a 0 c0")
        try_great(self, 2000, judged, text + "form any a 0 c0\nparts u a a")
        self.assertEqual(judged("cords 5\nrule u turns 9 1 2 3 4 5\nrow a -\nparts u a a"), (False,))


class TestTold(unittest.TestCase):
    def test_all_that_counts(self):
        for text in (whole_sheet(()), whole_sheet([claim for claim, _ in list(row_claims())[::50]])):
            self.assertEqual(sheet_told(text), (3, tuple(sorted(ROWS.items())), tuple(sorted(RULES.items())),
                                                tuple(sorted(BOOKS.items()))))
        self.assertEqual(sheet_told("cords 5"), (5, (), (), ()))
        text = "cords 2\nrow z -\nrule z turns 1 0\nrow a L0\nrow z R0\nbook z none\nbook z 2 - = -\nkeeps z never"
        self.assertEqual(sheet_told(text), (2, (("a", (a,)), ("z", (ra,))), (("z", ("turns", 1, (0,))),),
                                            (("z", ((2, (), ()),)),)))
        self.assertEqual(judged(text), (True,))
        for rule in (mixed(5), still(3), ("acts", ((0,),))):
            self.assertEqual(sheet_told("cords 2\nrule abcdefgh " + rule_text(rule)), (2, (), (("abcdefgh", rule),),
                ()))

    def test_arguments(self):
        self.assertEqual(judged(text="cords 2"), ())
        self.assertEqual(sheet_told(text="cords 2"), (2, (), (), ()))
        for function in (judged, sheet_told):
            for value in (None, True, 0, 7, (), ["cords 2"], ("cords 2",), {}, b"cords 2", NOTHING):
                self.try_words(function, value, None, None)

    def try_words(self, function, text, line, word):
        try:
            function(text)
        except BadWords as caught:
            self.assertEqual((caught.line, caught.word), (line, word), text)
            return
        self.fail(text)

    def test_each_word_bent(self):
        claims = ["order a 1 0 2", "alike any a b", "weakest a b none", "form any a 0 on c0 off c1 c2",
                  "form back a 1 c2", "form through a 2 0+ 1- c0", "form began a 0 -1 0 5 c1",
                  "form twice a 0 1 0 1 c1", "form never a 0 c1", "length back a 30", "period through a none",
                  "period twice a 4", "past never a b", "follows b twice a b", "numbers b began none",
                  "numbers b never 1 12", "keeps u through", "bears u b", "parts u a b"]
        head = ["cords 3", "row a L0 R1", "row abcdefgh -", "rule u table 1 / 0 / 0", "rule u acts 2 / 1 0 / 0 1",
                "rule v turns 5 0 4", "book b none", "book b 3 L0 R1 = - / 2 - = -"]
        lines = head + claims
        self.assertEqual(len(judged("\n".join(lines))), len(claims))
        for line, text in enumerate(lines):
            words = text.split(" ")
            for at in range(len(words) + 1):
                for wrong in ("?", "", "9" * 1001):
                    if at < len(words):
                        bent = words[:at] + [wrong] + words[at + 1:]
                        self.try_both(lines, line, " ".join(bent), at)
                    self.try_both(lines, line, " ".join(words[:at] + [wrong] + words[at:]), at)
            # Only rows and turns may end earlier.
            for at in range(1, len(words)):
                if words[0] in ("row", "rule", "book") and at > 2:
                    continue
                self.try_both(lines, line, " ".join(words[:at]), at)

    def try_both(self, lines, line, text, word):
        bent = "\n".join(lines[:line] + [text] + lines[line + 1:])
        for function in (judged, sheet_told):
            self.try_words(function, bent, line, word)
        # Of several wrong lines the first one is told.
        self.try_words(judged, bent + "\n?", line, word)

    def test_words(self):
        for text, line, word in (
                ("", 0, 0), ("cords", 0, 1), ("cords 1", 0, 1), ("cords 6", 0, 1), ("cords 02", 0, 1), ("cords 2 ", 0,
                2), ("Cords 2", 0, 0), ("cords 2\n", 1, 0), ("\ncords 2", 0, 0), ("cords 2\n\nrow a -", 1, 0),
                ("cords 2\nrow a L1", 1, 2), ("cords 2\nrow a", 1, 2), ("cords 2\nrow abcdefghi -", 1, 1),
                ("cords 2\nrow A -", 1, 1), ("cords 2\nrow a1 -", 1, 1), ("cords 2\nrow  -", 1, 1),
                ("cords 2\nrow a - -", 1, 3), ("cords 2\norder a 0 1\nrow a -", 2, 0),
                ("cords 2\nkeeps u any\nrule u turns 1 0", 2, 0), ("cords 2\nkeeps u any\nbook u none", 2, 0),
                ("cords 2\ncords 2", 1, 0), ("cords 2\norder a 0 0", 1, 3), ("cords 2\norder a 0", 1, 3),
                ("cords 2\norder a 0 2", 1, 3), ("cords 2\norder a 0 1 0", 1, 4), ("cords 2\nperiod back a none", 1,
                1), ("cords 2\nfollows b through a a", 1, 2), ("cords 2\nnumbers b any 1 1", 1, 2),
                ("cords 2\nnumbers b never 1", 1, 4), ("cords 2\nnumbers b never none 1", 1, 4),
                ("cords 2\nnumbers b never 1 none", 1, 4), ("cords 2\nnumbers b never -1 1", 1, 3),
                ("cords 2\nlength any a -1", 1, 3), ("cords 2\nlength any a none", 1, 3), ("cords 2\nperiod any a -1",
                1, 3), ("cords 2\nweakest a b other", 1, 3), ("cords 2\nform any a 2 c0", 1, 3),
                ("cords 2\nform any a -1 c0", 1, 3), ("cords 2\nform any a 0 c2", 1, 4),
                ("cords 2\nform any a 0 c0 c1", 1, 5), ("cords 2\nform any a 0 on c0", 1, 6),
                ("cords 2\nform began a 0 0 c0", 1, 5), ("cords 2\nform twice a 0 0 2 c0", 1, 5),
                ("cords 2\nform through a 0 0+ 0- c0", 1, 5), ("cords 2\nkeeps u any any", 1, 3),
                ("cords 2\nalike any a b c", 1, 4), ("cords 2\nbears u", 1, 2), ("cords 2\nparts u a abcdefghi", 1, 3),
                ("cords 2\nrule u table 1 / 0", 1, 6), ("cords 2\nbook b 6 - = -", 1, 2),
                ("cords 2\nrow a " + " ".join(["L0"] * 61), 1, 62)):
            self.try_words(judged, text, line, word)
            self.try_words(sheet_told, text, line, word)
        self.assertEqual(judged("cords 2\nlength any a " + "9" * 1000), (False,))
        self.try_words(judged, "cords 2\nlength any a " + "9" * 1001, 1, 3)
        self.assertRaises(BadCustom, goes_past, 2, (), (), "other")
        self.assertRaises(TooGreat, judged, "cords 3\nrow a " + row_text(3, LONG) + "\nperiod through a 1")


if __name__ == "__main__":
    unittest.main()
