"""[34] to [37]: cordrules/shown.py."""

import unittest
from itertools import permutations, product

from cordrules.errors import BadPaper
from cordrules.likeness import forms_of, forms_on, need_forms
from cordrules.rows import back_row, order_of
from cordrules.shown import check_shown, is_shown, row_of_forms, shown_paper, taken_back
from cordrules.words import least_word
from helpers import (
    A, B, CUSTOMS, LONG, NOTHING, beginning, crossings, deep, full, rows_of, rows_to, some_rows, try_great,
    try_refusals, wrong_cords, wrong_customs, wrong_forms, wrong_rows)

SHOWN = ("any", "through", "began", "twice", "never")
MOST = {"any": 60, "through": 10000, "began": 2000, "twice": 2000, "never": 10}
a, b, ra, rb = ("left", 0), ("left", 1), ("right", 0), ("right", 1)


def leads_to(cords, custom, row, forms):
    """Whether a row of any length leads from the beginning to the forms."""
    here = beginning(cords, custom)
    for at in range(0, len(row), 60):
        here = forms_on(cords, custom, here, row[at:at + 60])
    return here == forms


def refused(*arguments):
    try:
        check_shown(*arguments)
    except BadPaper as caught:
        return caught.word
    return None


class TestShown(unittest.TestCase):
    def check(self, cords, custom, forms, expected):
        """Looks at all that is told of the forms, and at papers of both kinds."""
        self.assertIs(need_forms(cords, custom, forms), forms)
        self.assertIs(is_shown(cords, custom, forms), expected)
        row = row_of_forms(cords, custom, forms)
        paper = shown_paper(cords, custom, forms)
        self.assertIs(check_shown(cords, custom, forms, paper), expected)
        self.assertEqual(paper[0] == "row", expected)
        self.assertEqual(row is not None, expected)
        if not expected:
            return
        self.assertTrue(leads_to(cords, custom, row, forms))
        self.assertLessEqual(len(row), MOST[custom])
        self.assertIs(check_shown(cords, custom, forms, ("row", row)), True)
        self.assertEqual(refused(cords, custom, forms, ("row", row + (("left", 0),))), "row")
        if custom != "never":
            self.assertEqual(refused(cords, custom, forms, ("row", row + (("left", 0),) * 2)), "row")

    def test_rows_of_few_crossings(self):
        for custom in SHOWN:
            for cords, most in ((2, 5), (3, 3), (4, 2), (5, 2)):
                found = {}
                for row in rows_to(cords, most):
                    found.setdefault(forms_of(cords, row, custom), row)
                for forms, row in found.items():
                    self.check(cords, custom, forms, True)
                    if custom in ("any", "never"):
                        # The first one is the least of all rows with the fewest crossings.
                        self.assertEqual(row_of_forms(cords, custom, forms), row)
            for cords in (2, 3, 4, 5):
                for row in some_rows(cords, 3, 8):
                    self.check(cords, custom, forms_of(cords, row, custom), True)

    def test_never(self):
        for cords in (2, 3, 4, 5):
            for forms in permutations(range(cords)):
                self.check(cords, "never", forms, True)
                row = row_of_forms(cords, "never", forms)
                self.assertEqual(order_of(cords, row), forms)
        self.assertEqual(row_of_forms(3, "never", (2, 1, 0)), (a, b, a))

    def test_others_by_any(self):
        # The forms of a row have as many deeds as it has crossings: so all shown forms are known here.
        terms = [A, B] + [(word, one, two) for word in ("on", "off") for one, two in product((A, B), repeat=2)]
        shown = {forms_of(2, row, "any") for row in rows_to(2, 2)}
        for forms in product(terms, repeat=2):
            if len({cord_below(form) for form in forms}) == 2:
                self.check(2, "any", forms, forms in shown)
        shown = {forms_of(3, row, "any") for row in rows_of(3, 3)}
        for forms in sorted(shown)[::5]:
            for order in permutations(range(3)):
                far = tuple(forms[place] for place in order)
                self.check(3, "any", far, far in shown)
            turned = tuple(with_sides(form) for form in forms)
            self.check(3, "any", turned, turned in shown)

    def test_others_by_through(self):
        shown = {forms_of(2, (side,) * many, "through") for many in range(9) for side in (a, ra)}
        words = {least_word(2, word) for many in range(4) for word in product(
            [(cord, sign) for cord in (0, 1) for sign in (1, -1)], repeat=many)}
        for one, other in list(product(sorted(words), repeat=2))[::3]:
            for forms in (((one, 0), (other, 1)), ((one, 1), (other, 0))):
                self.check(2, "through", forms, forms in shown)
        for forms in sorted(shown):
            self.check(2, "through", forms[::-1], forms[::-1] in shown)
        for row in some_rows(4, 4, 7):
            forms = forms_of(4, row, "through")
            for word, cord in forms:
                if word:
                    far = tuple((one[0] + ((cord, 1),) * 2, one[1]) if one[1] == cord else one for one in forms)
                    if least_word(4, word + ((cord, 1),) * 2) == word + ((cord, 1),) * 2:
                        self.check(4, "through", far, False)

    def test_others_by_counts(self):
        reached = {forms_of(2, row, "began") for row in rows_to(2, 7)}
        for one, other in product(product((-1, 0, 1), repeat=2), repeat=2):
            for forms in (((one, 0), (other, 1)), ((one, 1), (other, 0))):
                self.check(2, "began", forms, forms in reached)
        reached = {forms_of(3, row, "twice") for row in rows_to(3, 6)}
        self.assertEqual(len(reached), 48)
        for counts in list(product(list(product((0, 1), repeat=3)), repeat=3))[::5]:
            for order in permutations(range(3)):
                forms = tuple((counts[cord], cord) for cord in order)
                self.check(3, "twice", forms, forms in reached)
        reached = {forms_of(3, row, "began") for row in rows_to(3, 5)}
        for forms in sorted(reached)[::3]:
            for far in (forms[::-1], forms[1:] + forms[:1], tuple(turned_counts(form) for form in forms)):
                if sum(abs(count) for counts, _ in far for count in counts) <= 2:
                    self.check(3, "began", far, far in reached)
                else:
                    paper = shown_paper(3, "began", far)
                    self.assertIs(check_shown(3, "began", far, paper), paper[0] == "row")

    def test_examples(self):
        self.assertEqual(
            row_of_forms(2, "through", ((((0, 1), (1, 1), (0, -1)), 0), (((0, 1),), 1))), (a, a))


def cord_below(term):
    while term[0] != "cord":
        term = term[2]
    return term[1]


def with_sides(term):
    """The term with its outermost side the other one."""
    if term[0] == "cord":
        return term
    return ({"on": "off", "off": "on"}[term[0]],) + term[1:]


def turned_counts(form):
    return tuple(-count for count in form[0]), form[1]


class TestTakenBack(unittest.TestCase):
    def test_there_and_back(self):
        for custom in CUSTOMS:
            for cords, most in ((2, 3), (3, 2), (5, 1)):
                for row, other in product(rows_to(cords, most), repeat=2):
                    if custom in ("any", "back") and len(row) + len(other) > 4:
                        continue
                    before = forms_of(cords, row, custom)
                    forms = forms_of(cords, row + other, custom)
                    self.assertEqual(taken_back(cords, custom, forms, other), before)
                    if custom == "any":
                        continue
                    found = taken_back(cords, custom, before, other)
                    self.assertEqual(found, forms_on(cords, custom, before, back_row(cords, other)))
                    self.assertEqual(forms_on(cords, custom, found, other), before)

    def test_any_goes_back_only_where_it_came_from(self):
        forms = (("on", A, B), A)
        self.assertEqual(taken_back(2, "any", forms, (a,)), (A, B))
        for row in ((ra,), (a, a), (ra, a), (a, ra)):
            self.assertIsNone(taken_back(2, "any", forms, row))
        self.assertEqual(taken_back(2, "any", forms, ()), forms)
        self.assertIsNone(taken_back(2, "any", forms[::-1], (a,)))
        self.assertEqual(taken_back(2, "any", (B, ("off", B, A)), (ra,)), (A, B))
        self.assertIsNone(taken_back(2, "any", (B, ("off", A, A)), (ra,)))
        # All that is asked is that what was above is above: these forms come from no row.
        forms = (("on", ("on", B, B), ("off", A, A)), ("on", B, B))
        self.assertEqual(taken_back(2, "any", forms, (a,)), (("on", B, B), ("off", A, A)))
        for row in rows_to(3, 3):
            for other in rows_of(3, 2):
                found = taken_back(3, "any", forms_of(3, row, "any"), other)
                if found is not None:
                    self.assertEqual(forms_on(3, "any", found, other), forms_of(3, row, "any"))

    def test_too_great(self):
        great = ("on", full(10), ("on", A, B))
        forms = (great, ("off", ("off", great, B), A))
        self.assertEqual(taken_back(2, "back", (full(10), B), ()), (full(10), B))
        try_great(self, 2000, taken_back, 2, "back", forms, (a, a))
        # Also where a term is shorter in the end.
        forms = (("off", full(9), A), ("on", full(9), B))
        there = None
        for many in range(1, 20):
            try:
                there = taken_back(2, "back", forms, (a,) * many)
            except ValueError:
                break
        self.assertIsNotNone(there)
        try_great(self, 2000, taken_back, 2, "back", forms, (ra,) * many + (a,) * many)
        self.assertEqual(taken_back(2, "back", forms, (ra,) * 2 + (a,) * 2), forms)
        word = tuple((at % 2, 1) for at in range(1000))
        forms = ((word, 0), ((), 1))
        try_great(self, 2000, taken_back, 2, "through", forms, (ra,))
        try_great(self, 2000, taken_back, 2, "through", forms, (a, ra))
        self.assertEqual(len(taken_back(2, "through", ((word[:999], 1), ((), 0)), (ra,))[0][0]), 1999)
        self.assertEqual(len(taken_back(2, "through", forms, (a,))[1][0]), 1001)
        self.assertEqual(taken_back(2, "began", (((10 ** 900, 3), 0), ((0, 0), 1)), (a,) * 60)[0][0], (10 ** 900, -27))

    def test_wrong_ones(self):
        for custom in CUSTOMS:
            forms = forms_of(2, (a,), custom)
            try_refusals(
                self, taken_back, ("cords", 2, wrong_cords()), ("custom", custom, wrong_customs()),
                ("forms", forms, wrong_forms(custom)), ("row", (a,), wrong_rows(2)))


class TestSizes(unittest.TestCase):
    def test_sixty_deeds(self):
        row = (a,) * 4 + (b,) * 2 + (ra,) * 4
        forms = forms_of(3, row, "any")
        self.assertEqual(check_shown(3, "any", forms, ("row", row)), True)
        for forms in ((deep(61), ("on", deep(5), A)), (deep(61), deep(61, A))):
            for function in (is_shown, row_of_forms, shown_paper):
                try_great(self, 60, function, 2, "any", forms)
            first = ((0, 1), (0, 0))
            self.assertEqual(refused(2, "any", forms, ("row", ())), "row")
            self.assertEqual(refused(2, "any", forms, ("closed", (first,))), "closed")
            states = (first, ((1, 0), (0, 1)))
            if forms[1] == deep(61, A):
                # Both cords have been under the other one's first form: then nothing fits.
                self.assertIs(check_shown(2, "any", forms, ("closed", states)), False)
                self.assertEqual(refused(2, "any", forms, ("closed", states[1:])), "closed")
        self.assertIs(is_shown(2, "any", (deep(61), A)), False)
        self.assertIs(is_shown(2, "any", (deep(60), ("on", A, A))), False)

    def test_counts_of_sixty(self):
        for sign in (1, -1):
            many = 60 * sign
            forms = (((0, many), 0), ((many, 0), 1))
            self.assertIs(is_shown(2, "began", forms), True)
            self.assertTrue(leads_to(2, "began", row_of_forms(2, "began", forms), forms))
            self.assertIs(check_shown(2, "began", forms, shown_paper(2, "began", forms)), True)
            forms = tuple((tuple(0 if other == cord else many for other in range(5)), cord) for cord in range(5))
            row = row_of_forms(5, "began", forms)
            self.assertTrue(leads_to(5, "began", row, forms))
            self.assertLessEqual(len(row), 2000)
            more = 61 * sign
            both = (((0, more), 0), ((more, 0), 1))
            for forms in (both, (((0, more), 0), ((0, 0), 1)), (((more, 0), 0), ((0, 0), 1))):
                for function in (row_of_forms, shown_paper):
                    try_great(self, 60, function, 2, "began", forms)
                self.assertIs(is_shown(2, "began", forms), forms[1][0][0] == more)
            forms = (((0, more), 0), ((more, 0), 1))
            self.assertIs(check_shown(2, "began", forms, ("row", (("left" if sign > 0 else "right", 0),) * 122)), True)
        forms = (((0, 10 ** 900), 0), ((0, 0), 1))
        self.assertIs(is_shown(2, "began", forms), False)
        self.assertIs(check_shown(2, "began", forms, ("pair", 0, 1)), False)

    def test_rows_of_ten_thousand(self):
        turns = (a, ra) * 5000
        for custom in SHOWN[1:]:
            forms = beginning(3, custom)
            self.assertIs(check_shown(3, custom, forms, ("row", turns)), True)
            self.assertEqual(refused(3, custom, forms, ("row", turns + (b, rb))), "row")
            self.assertEqual(refused(3, custom, forms, ("row", turns[:-1] + (None,))), "row")
            self.assertEqual(refused(3, custom, forms, ("row", list(turns))), "row")
        self.assertEqual(refused(3, "any", beginning(3, "any"), ("row", turns)), "row")
        stuck = (((), 1), ((), 0))
        self.assertIs(check_shown(2, "through", stuck, ("rest", (), stuck)), False)
        self.assertIs(check_shown(2, "through", stuck, ("rest", (a, ra) * 5000, stuck)), False)
        self.assertEqual(refused(2, "through", stuck, ("rest", (a, ra) * 5001, stuck)), "rest")

    def test_words_of_six_thousand_letters(self):
        # On two cords two crossings put three letters to the longer word: behind 4,000 it has 6,000.
        here = beginning(2, "through")
        for many in range(1, 1001):
            here = forms_on(2, "through", here, (a,))
            self.assertEqual(max(len(word) for word, _ in here), many * 3 // 2)
        shown = beginning(2, "through")
        self.assertIs(check_shown(2, "through", shown, ("row", (a,) * 4000 + (ra,) * 4000)), True)
        self.assertEqual(refused(2, "through", shown, ("row", (a,) * 4001 + (ra,) * 4001)), "row")
        self.assertEqual(refused(3, "through", beginning(3, "through"), ("row", LONG + back_row(3, LONG))), "row")
        rest = ((((1, 1), (0, 1)) * 3000, 0), ((), 1))
        forms = ((((1, 1), (0, 1)), 0), ((), 1))
        self.assertEqual(refused(2, "through", forms, ("rest", (), rest)), "rest")
        rest = ((((1, 1),) + ((0, 1),) * 5999, 0), ((), 1))
        longer = ((((1, 1),) + ((0, 1),) * 6000, 0), ((), 1))
        self.assertEqual(refused(2, "through", forms, ("rest", (), rest)), "rest")
        self.assertEqual(refused(2, "through", forms, ("rest", (), longer)), "rest")


class TestWrongPapers(unittest.TestCase):
    def test_wrong_ones(self):
        forms = {custom: forms_of(2, (a,), custom) for custom in SHOWN}
        for custom in SHOWN:
            wrong = [(value, BadPaper, "form") for value in self.no_papers(custom)]
            wrong += [(("row", value), BadPaper, "row") for value in (
                None, True, 0, "", "a", [], [a], {}, NOTHING, (), (a, a), (ra, ra), (None,), (("left", 1),),
                (("left", True),), (a,) * 10001, a)]
            if custom in ("any", "through", "began"):
                wrong += [(("row", (ra,)), BadPaper, "row")]
            for function in (is_shown, row_of_forms, shown_paper):
                try_refusals(
                    self, function, ("cords", 2, wrong_cords()), ("custom", custom, wrong_customs(SHOWN)),
                    ("forms", forms[custom], wrong_forms(custom)))
            try_refusals(
                self, check_shown, ("cords", 2, wrong_cords()), ("custom", custom, wrong_customs(SHOWN)),
                ("forms", forms[custom], wrong_forms(custom)), ("paper", ("row", (a,)), wrong))

    def no_papers(self, custom):
        others = {"row": ("row", (a,)), "closed": ("closed", (((0, 1), (0, 0)),)), "rest": ("rest", (), ()),
                  "pair": ("pair", 0, 1)}
        own = {"any": "closed", "through": "rest", "began": "pair", "twice": "pair", "never": "row"}[custom]
        wrong = [None, True, 0, "", "row", (), [], {}, NOTHING, ("row",), ("row", (a,), 0), ["row", (a,)],
                 ("Row", (a,)), (None, (a,)), (0, 1), (("row",), (a,)), (b"row", (a,)), (["row"], 1), ("closed",),
                 ("rest", ()), ("pair", 0), ("pair", 0, 1, 2), ("closed", (), ()), ("rest", (), (), ())]
        return wrong + [value for word, value in others.items() if word not in ("row", own)]

    def test_closed(self):
        forms = forms_of(2, (a, ra), "any")[::-1]
        paper = shown_paper(2, "any", forms)
        self.assertEqual(paper[0], "closed")
        states = paper[1]
        first = ((0, 1), (0, 0))
        self.assertIn(first, states)
        self.assertIs(check_shown(2, "any", forms, ("closed", states[::-1])), False)
        for value in (None, True, 0, "", (), [], list(states), {}, NOTHING, states + states[:1], states[1:],
                      states + (None,), states + (((0, 1), (0,)),), states + (((0, 1), (3, 0)),),
                      tuple(state for state in states if state != first), (first, first)):
            self.assertEqual(refused(2, "any", forms, ("closed", value)), "closed", value)
        # A state that never comes may be among them, if all that comes of it is there too.
        last = (tuple(cord_below(form) for form in forms), (0, 2))
        self.assertEqual(refused(2, "any", forms, ("closed", states + (last,))), "closed")
        far = ((1, 0), (0, 0))
        self.assertIs(check_shown(2, "any", forms, ("closed", states + (far,))), False)
        shown = forms_of(2, (a, ra), "any")
        everything = tuple(product(permutations((0, 1)), product((0,), (0, 1, 2))))
        self.assertEqual(refused(2, "any", shown, ("closed", everything)), "closed")
        without = tuple(state for state in everything if state != ((0, 1), (0, 2)))
        self.assertEqual(refused(2, "any", shown, ("closed", without)), "closed")
        self.assertEqual(refused(2, "any", (A, B), ("closed", (first,))), "closed")
        self.assertIs(check_shown(2, "any", (B, A), ("closed", (first,))), False)
        self.assertEqual(refused(2, "any", (B, A), ("row", ())), "row")

    def test_rest(self):
        rest = ((((1, 1),), 0), (((0, 1),), 1))
        for row in ((), (a,), (a, ra), (ra, ra, ra)):
            forms = forms_on(2, "through", rest, row)
            self.assertIs(check_shown(2, "through", forms, ("rest", row, rest)), False, row)
            self.assertEqual(refused(2, "through", forms, ("rest", row + (a,), rest)), "rest")
            self.assertEqual(refused(2, "through", forms, ("row", row)), "row")
        begun = beginning(2, "through")
        self.assertEqual(refused(2, "through", begun, ("rest", (), begun)), "rest")
        self.assertEqual(refused(2, "through", forms_of(2, (a,), "through"), ("rest", (a,), begun)), "rest")
        # What could still be peeled is no rest.
        forms = forms_on(2, "through", rest, (a, a))
        self.assertEqual(refused(2, "through", forms, ("rest", (), forms)), "rest")
        for value in (None, True, 0, "", [], {}, NOTHING, (), rest[:1], rest + rest[:1], list(rest), (None, None),
                      (rest[0], rest[0]), (((), 0), ((), 0)), ((((0, 1), (0, -1)), 0), rest[1]), ((None, 0), rest[1]),
                      ((((2, 1),), 0), rest[1]), (rest[0], ((), 2)), (rest[0], ((), True))):
            self.assertEqual(refused(2, "through", rest, ("rest", (), value)), "rest", value)
        for value in (None, True, 0, "", [], {}, NOTHING, (None,), (("left", 1),), (a,) * 10001):
            self.assertEqual(refused(2, "through", rest, ("rest", value, rest)), "rest", value)

    def test_pair(self):
        forms = (((0, 0), 1), ((1, 0), 0))
        self.assertIs(check_shown(2, "began", forms, ("pair", 0, 0)), False)
        self.assertIs(check_shown(2, "began", forms, ("pair", 0, 1)), False)
        for one, other in ((1, 1), (1, 0), (0, 2), (-1, 0), (None, 0), (0, None), (True, True), (0, True), (False, 0),
                           ("0", 0), ((0,), 0), ([0], 0), (10 ** 30, 10 ** 30), (NOTHING, 1)):
            self.assertEqual(refused(2, "began", forms, ("pair", one, other)), "pair")
            self.assertEqual(refused(2, "twice", forms, ("pair", one, other)), "pair")
        for row in rows_to(3, 3):
            for custom in ("began", "twice"):
                forms = forms_of(3, row, custom)
                for one, other in product(range(3), repeat=2):
                    self.assertEqual(refused(3, custom, forms, ("pair", one, other)), "pair")
        forms = (((0, 2), 0), ((0, 0), 1))
        self.assertIs(check_shown(2, "began", forms, ("pair", 0, 1)), False)
        self.assertEqual(refused(2, "began", forms, ("pair", 0, 0)), "pair")
        self.assertEqual(crossings(2), [a, ra])


if __name__ == "__main__":
    unittest.main()
