"""[48], [49]: cordrules/plain.py."""

import unittest
from itertools import product

from cordrules.books import book_numbers, need_book
from cordrules.breaches import custom_of, keeps
from cordrules.errors import BadCustom, BadPaper
from cordrules.filled import all_tables
from cordrules.follow import does_follow
from cordrules.plain import (
    check_follow, does_rule_follow, follow_paper, plain_book, plain_rule, rule_numbers, turns_count)
from cordrules.plain_rows import book_with_numbers
from cordrules.rules import as_table, colours_of, need_rule, on_colour, run_colours
from cordrules.tables import pair_table
from helpers import (
    NOTHING, rows_to, some_rows, try_refusals, wrong_books, wrong_cords, wrong_customs, wrong_numbers, wrong_rows,
    wrong_told_rules)
from test_follow import BOOK_CUSTOMS, BOOKS, FOUR, THREE, TWO, UNLIKE, turning_rules

a, b, ra = ("left", 0), ("left", 1), ("right", 0)


def small_rules():
    """Rules that keep "began", of all sorts."""
    rules = [rule for custom in ("began", "twice", "never") for many in (1, 2, 3) for rule in all_tables(many, custom)]
    rules += [("turns", modulus, weights) for modulus, weights in (
        (1, (0,)), (1, (0, 0)), (2, (1,)), (4, (2, 0)), (6, (2, 4)), (6, (3, 2)), (12, (4, 10)), (5, (1, 1, 1)),
        (9, (3, 6, 0)), (7, (0, 0)))]
    rules += [("acts", ((1, 0),)), ("acts", ((0, 1), (1, 0))), ("acts", ((1, 2, 0),)), ("acts", ((0, 1, 2), (2, 0, 1))),
              ("acts", ((1, 0, 3, 2), (2, 3, 0, 1))), ("acts", ((0,),)), ("acts", ((0,), (0,)))]
    return rules + [pair_table(as_table(("turns", 4, (1, 3))), all_tables(3, "began")[-1])]


def numbers_by_words(rule):
    """The numbers of a rule, going through all its colours."""
    colours = colours_of(rule)

    def again(many, over, under):
        for _ in range(many):
            under = on_colour(rule, over, under)
        return under

    def common(many):
        return all(again(many, one, under) == again(many, colours[0], under) for one in colours for under in colours)

    def home(many):
        return all(again(many, one, under) == under for one in colours for under in colours)

    first = next(many for many in range(1, 100) if common(many))
    return first, next(many for many in range(1, 100) if home(many))


def does_follow_by_words(rule, book):
    """Whether a rule follows a book, going through all colours at the beginning."""
    colours = colours_of(rule)
    return all(run_colours(cords, row, rule, start) == run_colours(cords, other, rule, start)
               for cords, row, other in book for start in product(colours, repeat=cords))


class TestRules(unittest.TestCase):
    def test_numbers(self):
        for rule in small_rules():
            if len(colours_of(rule)) <= 12:
                self.assertEqual(rule_numbers(rule), numbers_by_words(rule), rule)
            self.assertEqual(rule_numbers(rule), rule_numbers(as_table(rule)))
        self.assertEqual(rule_numbers(("acts", ((1, 2, 0), (0, 1, 2)))), (3, 3))
        self.assertEqual(rule_numbers(("acts", ((1, 0, 3, 2),))), (2, 2))
        self.assertEqual(rule_numbers(("turns", 10 ** 6, (1, 1 + 10 ** 3))), (10 ** 3, 10 ** 6))
        self.assertEqual(rule_numbers(("turns", 10 ** 6, (10 ** 6 - 1,))), (1, 10 ** 6))
        self.assertEqual(rule_numbers(("acts", (tuple(range(4001)),) * 5)), (1, 1))

    def test_great_tables(self):
        # A colour of 200 that turns all others round in rounds of many lengths.
        lengths, line, at = (2, 3, 5, 7, 11, 13, 17, 19, 23, 29, 31, 37), [], 0
        for length in lengths:
            line += [at + (number + 1) % length for number in range(length)]
            at += length
        line += list(range(at, 200))
        still = tuple(range(200))
        line, back = tuple(line), [0] * 200
        for number, image in enumerate(line):
            back[image] = number
        rule = ("table", (line,) * 200, (tuple(back),) * 200)
        self.assertEqual(rule_numbers(rule), (1, 7420738134810))
        rule = ("table", (still,) * 199 + (line,), (still,) * 199 + (tuple(back),))
        self.assertEqual(rule_numbers(rule), (7420738134810, 7420738134810))
        self.assertIs(does_rule_follow(rule, ()), True)
        self.assertIs(does_rule_follow(rule, TWO), False)

    def test_rules_that_follow(self):
        for rule in small_rules():
            many = len(colours_of(rule))
            for book in BOOKS:
                found = does_rule_follow(rule, book)
                if many ** max([cords for cords, _, _ in book], default=1) <= 300:
                    self.assertIs(found, does_follow_by_words(rule, book), (rule, book))
                numbers, own = book_numbers("began", book), rule_numbers(rule)
                if many == 1:
                    self.assertIs(found, True)
                else:
                    self.assertIs(found, numbers is not None and all(
                        number % far == 0 for number, far in zip(numbers, own)))

    def test_same_colours_by_the_numbers(self):
        for rule in small_rules()[::2]:
            colours = colours_of(rule)
            if not 2 <= len(colours) <= 6:
                continue
            for row, other in list(product(rows_to(2, 4), repeat=2))[::13]:
                same = all(run_colours(2, row, rule, start) == run_colours(2, other, rule, start)
                           for start in product(colours, repeat=2))
                self.assertIs(does_rule_follow(rule, ((2, row, other),)), same)

    def test_refused_rules(self):
        wrong = [(value, error, place) for value, error, place in wrong_told_rules()]
        for rule in (all_tables(2, "any")[7], ("table", ((0, 0), (1, 0)), ((0, 1), (0, 1))),
                     next(one for one in all_tables(3, "back") if custom_of(one) == "back"),
                     ("acts", ((1, 0, 2),)), ("acts", ((1, 2, 3, 0),)), ("acts", ((1, 0, 3, 2, 4),))):
            self.assertIn(custom_of(rule), ("any", "back", "through"))
            wrong.append((rule, BadCustom, custom_of(rule)))
        good = ("rule", ("turns", 4, (1, 3)), wrong)
        try_refusals(self, rule_numbers, good)
        try_refusals(self, does_rule_follow, good, ("book", THREE, wrong_books()))


class TestPlainRules(unittest.TestCase):
    def test_it_keeps_and_follows(self):
        for custom, book in product(BOOK_CUSTOMS, BOOKS):
            rule = plain_rule(custom, book)
            self.assertIs(need_rule(rule), rule)
            self.assertTrue(keeps(rule, custom))
            self.assertTrue(does_rule_follow(rule, book))
            if book_numbers(custom, book) is None:
                self.assertEqual(rule, ("turns", 1, (0,)))

    def test_as_told(self):
        self.assertEqual(plain_rule("began", ()), ("turns", 61, (1, 2)))
        self.assertEqual(plain_rule("twice", ()), ("turns", 2, (1, 0)))
        self.assertEqual(plain_rule("never", TWO), ("turns", 1, (0, 0)))
        self.assertEqual(plain_rule("began", TWO), ("turns", 2, (1, 0)))
        self.assertEqual(plain_rule("began", THREE), ("turns", 2, (1, 1)))
        self.assertEqual(plain_rule("began", FOUR), ("turns", 61, (1, 1)))
        self.assertEqual(plain_rule("began", book_with_numbers("began", (7, 0))), ("turns", 63, (1, 10)))
        self.assertEqual(plain_rule("began", book_with_numbers("began", (4, 60))), ("turns", 60, (1, 16)))
        self.assertEqual(plain_rule("began", ((2, (a,) * 60, (ra,) * 60),)), ("turns", 60, (1, 2)))

    def test_it_parts_what_does_not_follow(self):
        for custom, book in product(BOOK_CUSTOMS, BOOKS):
            rule = plain_rule(custom, book)
            for cords in (2, 3):
                for row, other in list(product(rows_to(cords, 4), repeat=2))[::1009 if cords > 2 else 29]:
                    same = all(
                        run_colours(cords, row, rule, start) == run_colours(cords, other, rule, start)
                        for letters in product(range(len(rule[2])), repeat=cords)
                        for start in [tuple((0, letter) for letter in letters)])
                    self.assertIs(does_follow(cords, row, other, custom, book), same)

    def test_papers(self):
        pairs = [(cords, row, other) for cords in (2, 3) for row, other in list(
            product(rows_to(cords, 4), repeat=2))[::601 if cords > 2 else 17]]
        pairs += [(5, row, other) for row, other in product(some_rows(5, 4, 60), repeat=2)]
        pairs += [(2, (a,) * 60, (ra,) * 60), (4, (a,) * 60, ()), (3, (a, b) * 30, (b, a) * 30)]
        for custom, book in product(BOOK_CUSTOMS, BOOKS):
            for cords, row, other in pairs:
                paper = follow_paper(cords, row, other, custom, book)
                self.assertIs(paper is None, does_follow(cords, row, other, custom, book))
                if paper is not None:
                    self.assertEqual(paper[0], plain_rule(custom, book))
                    self.assertIs(check_follow(cords, row, other, custom, book, paper), paper)

    def test_wrong_papers(self):
        cords, row, other = ("cords", 2, wrong_cords()), ("row", (a, a), wrong_rows(2)), ("other", (), wrong_rows(2))
        custom, book = ("custom", "began", wrong_customs(BOOK_CUSTOMS)), ("book", ((2, (a,) * 8, ()),), wrong_books())
        rule, colours = ("turns", 4, (1, 1)), ((0, 0), (3, 1))
        good = (rule, colours, 1)
        wrong = [(value, BadPaper, "form") for value in (
            None, True, 0, "", "abc", (), good[:2], good + (0,), list(good), {}, NOTHING)]
        wrong += [((value, colours, 1), BadPaper, "rule") for value, _, _ in wrong_told_rules()[::3]]
        wrong += [((value, None, None), BadPaper, "custom") for value in (
            ("acts", ((1, 0, 2), (0, 1, 2))), all_tables(2, "any")[0])]
        wrong += [((("turns", 8, (1, 1)), None, None), BadPaper, "book"),
                  ((("turns", 3, (1, 1)), colours, 1), BadPaper, "book")]
        wrong += [((rule, value, None), BadPaper, "colours") for value in (
            None, True, 0, "", (), [], {}, NOTHING, colours[:1], colours * 2, list(colours), ((0, 0), (4, 1)),
            ((0, 0), (0, 2)), ((0, 0), None), (0, 1))]
        wrong += [((rule, colours, value), BadPaper, "place") for value in (
            None, True, False, 2, -1, "0", (), [0], {}, 10 ** 30, NOTHING)]
        try_refusals(self, check_follow, cords, row, other, custom, book, ("paper", good, wrong))
        same = (("turns", 2, (0, 0)), ((0, 0), (0, 1)), 0)
        with self.assertRaises(BadPaper) as caught:
            check_follow(2, (a, a), (), "began", (), same)
        self.assertEqual(caught.exception.word, "same")
        with self.assertRaises(BadPaper) as caught:
            check_follow(2, (a, a), (), "twice", (), good)
        self.assertEqual(caught.exception.word, "custom")
        # A rule with one colour follows each book, but parts nothing.
        for one in (("turns", 1, (0,)), ("table", ((0,),), ((0,),))):
            with self.assertRaises(BadPaper) as caught:
                check_follow(2, (a,), (), "began", UNLIKE, (one, colours_of(one) * 2, 0))
            self.assertEqual(caught.exception.word, "same")
        with self.assertRaises(BadPaper) as caught:
            check_follow(2, (a,), (), "began", UNLIKE, (("turns", 1, (0, 0)), ((0, 0), (0, 1)), 0))
        self.assertEqual(caught.exception.word, "book")

    def test_wrong_ones(self):
        cords, row, other = ("cords", 3, wrong_cords()), ("row", (a, b), wrong_rows(3)), ("other", (b,), wrong_rows(3))
        custom, book = ("custom", "twice", wrong_customs(BOOK_CUSTOMS)), ("book", THREE, wrong_books())
        try_refusals(self, plain_rule, custom, book)
        try_refusals(self, plain_book, custom, book)
        try_refusals(self, follow_paper, cords, row, other, custom, book)
        try_refusals(self, turns_count, custom, book, ("modulus", 6, wrong_numbers(1, 10 ** 6)),
                     ("many", 2, wrong_numbers(1, 5)))


class TestPlainBooks(unittest.TestCase):
    def check(self, custom, book, numbers):
        self.assertIs(need_book(book), book)
        self.assertLessEqual(len(book), 2)
        self.assertEqual(book_numbers(custom, book), numbers)

    def test_books(self):
        for custom, book in product(BOOK_CUSTOMS, BOOKS):
            self.check(custom, plain_book(custom, book), book_numbers(custom, book))
        for custom in BOOK_CUSTOMS:
            self.assertEqual(plain_book(custom, ()), ())
            for row in some_rows(5, 20, 30):
                for far in some_rows(3, 3, 20):
                    book = ((5, row, tuple(reversed(row))), (3, far, far[:-2]))
                    self.check(custom, plain_book(custom, book), book_numbers(custom, book))

    def test_all_numbers_that_books_have(self):
        told = [(number, number) for number in range(61)] + [(number, 2 * number) for number in range(1, 21)]
        told += [(number, number * times) for number in range(1, 16) for times in range(3, 61) if number * times <= 60]
        told += [(number, 0) for number in range(16)]
        for numbers in told:
            book = book_with_numbers("began", numbers)
            self.check("began", book, numbers)
            for custom in BOOK_CUSTOMS:
                self.check(custom, plain_book(custom, book), book_numbers(custom, book))


class TestCounts(unittest.TestCase):
    def test_beside_all_weights(self):
        for custom, book in product(BOOK_CUSTOMS, BOOKS):
            for modulus, many in ((1, 1), (1, 2), (2, 1), (2, 2), (3, 2), (4, 1), (4, 2), (6, 1), (2, 3), (3, 3)):
                expected = len(turning_rules(custom, book, modulus, many))
                self.assertEqual(turns_count(custom, book, modulus, many), expected, (custom, book, modulus, many))

    def test_named_ones(self):
        self.assertEqual(turns_count("began", (), 10 ** 6, 5), 10 ** 30)
        self.assertEqual(turns_count("began", UNLIKE, 1, 1), 1)
        self.assertEqual(turns_count("began", UNLIKE, 1, 2), 0)
        self.assertEqual(turns_count("never", UNLIKE, 2, 1), 0)
        self.assertEqual(turns_count("twice", (), 10 ** 6, 3), 8)
        self.assertEqual(turns_count("never", THREE, 999999, 5), 1)


if __name__ == "__main__":
    unittest.main()
