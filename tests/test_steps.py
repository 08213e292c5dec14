"""[38] to [40]: cordrules/steps.py."""

import unittest
from itertools import combinations, product

from cordrules.kinds import Kinds, kinds_total
from cordrules.likeness import are_alike, forms_of, forms_on, pair_numbers
from cordrules.rows import back_row, order_of
from cordrules.steps import farthest, fewest, how_far, is_shortest, least_row, row_between
from cordrules.threes import half_turns
from helpers import (
    CUSTOMS, FAR_LONG, LONG, beginning, crossings, rows_of, rows_to, some_rows, try_great, try_refusals, wrong_cords,
    wrong_customs, wrong_rows)

a, b, ra, rb = ("left", 0), ("left", 1), ("right", 0), ("right", 1)
MOST = {2: 7, 3: 5, 4: 3, 5: 2}
NOT_ANY = CUSTOMS[1:]
TOLD = {"back": (2,), "through": (2, 3), "began": (2, 3), "twice": (2, 3, 4), "never": (2, 3, 4, 5)}


def least_ones(cords, custom, most):
    """For each row of few crossings the first row, by crossings and as Python compares, that is alike to it."""
    first = {}
    found = {}
    for row in rows_to(cords, most):
        found[row] = first.setdefault(forms_of(cords, row, custom), row)
    return found


def forms_behind(cords, row, custom):
    """The forms of a row of any length."""
    forms = beginning(cords, custom)
    for at in range(0, len(row), 60):
        forms = forms_on(cords, custom, forms, row[at:at + 60])
    return forms


class TestLengths(unittest.TestCase):
    def test_all_rows(self):
        for custom in CUSTOMS:
            for cords, most in MOST.items():
                chosen = list(least_ones(cords, custom, most).items())
                for row, least in chosen[::1 if len(chosen) < 400 else 7]:
                    self.assertEqual(fewest(cords, row, custom), len(least))
                    self.assertIs(is_shortest(cords, row, custom), len(row) == len(least))
                    self.assertEqual(least_row(cords, row, custom), least)

    def test_examples(self):
        self.assertEqual(fewest(3, (a, b, b, ra), "began"), 4)
        self.assertEqual(least_row(3, (rb, ra, rb), "never"), (a, b, a))
        self.assertEqual([fewest(cords, (), custom) for cords in MOST for custom in CUSTOMS], [0] * 24)

    def test_one_crossing_more(self):
        for custom, many_cords in TOLD.items():
            for cords in many_cords:
                for row in some_rows(cords, 12, 40):
                    length = fewest(cords, row, custom)
                    near = [fewest(cords, row + (one,), custom) for one in crossings(cords)]
                    self.assertTrue(all(abs(one - length) == 1 for one in near))
                    self.assertTrue(length == 0 or min(near) == length - 1)
                    least = least_row(cords, row, custom)
                    self.assertEqual(len(least), length)
                    self.assertTrue(are_least(cords, least, row, custom))
                    for many in range(0, length, 3):
                        self.assertEqual(least_row(cords, least[:many], custom), least[:many])

    def test_any(self):
        for row in some_rows(5, 3, 60) + [(), (a,)]:
            self.assertEqual(fewest(5, row, "any"), len(row))
            self.assertIs(is_shortest(5, row, "any"), True)
        for cords in (2, 3, 4, 5):
            try_great(self, 2000, least_row, cords, some_rows(cords, 1, 60)[0], "any")
            kinds = Kinds(cords, "any")
            last = kinds.row_of(1999)
            self.assertEqual(least_row(cords, last, "any"), last)
            try_great(self, 2000, least_row, cords, (("right", cords - 2),) * (len(last) + 1), "any")
        self.assertEqual(least_row(3, (rb,) * 3, "any"), (rb,) * 3)

    def test_facts(self):
        for cords in (2, 3, 4, 5):
            for row in some_rows(cords, 10, 12):
                order = order_of(cords, row)
                pairs = list(combinations(range(cords), 2))
                crossed = len([pair for pair in pairs if order.index(pair[0]) > order.index(pair[1])])
                self.assertEqual(fewest(cords, row, "never"), crossed)
                if cords < 5:
                    wanted = frozenset((one, other) for one, other, number in pair_numbers(cords, row)
                                       if number % 4 == 2)
                    self.assertEqual(fewest(cords, row, "twice"), walk_length(cords, order, wanted))
        for row in some_rows(2, 10, 31):
            for custom in ("back", "through", "began"):
                self.assertEqual(fewest(2, row, custom), abs(pair_numbers(2, row)[0][2]))
        for row in some_rows(3, 30, 20) + [(a,) * 60, (a, b, b, ra) * 15, (a, b, b, rb) * 15]:
            numbers = [number for _, _, number in pair_numbers(3, row)]
            far_alone = numbers[0] == numbers[2] == 0 != numbers[1]
            self.assertEqual(fewest(3, row, "began"), sum(map(abs, numbers)) + (2 if far_alone else 0))

    def test_sums_over_walks(self):
        # By "began" on four cords: the least sum over walks, gone through for kinds of few crossings.
        for row in some_rows(4, 25, 4) + rows_of(4, 3)[::17]:
            order = order_of(4, row)
            numbers = {(one, other): abs(number) for one, other, number in pair_numbers(4, row)}
            self.assertEqual(fewest(4, row, "began"), least_sum(4, order, numbers))

    def test_not_told_for_all(self):
        for custom, cords in (("back", 3), ("back", 5), ("through", 4), ("through", 5), ("began", 4), ("began", 5),
                              ("twice", 5)):
            kinds = Kinds(cords, custom)
            for number in (0, 1, 1000, 1999):
                row = kinds.row_of(number)
                for far in (row, (a, ra) * 20 + row):
                    self.assertEqual(fewest(cords, far, custom), len(row))
                    self.assertEqual(least_row(cords, far, custom), row)
            beyond = last_of_the_first(kinds, cords)
            for function in (fewest, is_shortest, least_row):
                try_great(self, 2000, function, cords, beyond, custom)
                if custom != "twice":
                    try_great(self, 2000, function, cords, (a,) * 60, custom)
        there = LONG[:24] + back_row(3, LONG[:24])
        for cords in (4, 5):
            for function in (fewest, is_shortest, least_row):
                try_great(self, 2000, function, cords, there, "through")
                function(cords, there, "back")
        self.assertEqual(fewest(3, there, "through"), 0)
        self.assertEqual(fewest(3, LONG, "through"), 60)
        self.assertEqual(len(least_row(3, FAR_LONG, "through")), 60)


def are_least(cords, least, row, custom):
    """Whether the rows are alike, long ones by half turns too."""
    if cords == 3 and custom == "through":
        return half_turns(least) == half_turns(row)
    return are_alike(cords, least, row, custom)


def last_of_the_first(kinds, cords):
    """A least row of none of the first kinds."""
    for number in range(1999, -1, -1):
        for crossing, behind in zip(crossings(cords), kinds.next_of(number)):
            if behind is None:
                return kinds.row_of(number) + (crossing,)
    return None


def walk_length(cords, order, wanted):
    """The exchanges of the shortest walk to an order that exchanges each wanted pair."""
    start = (tuple(range(cords)), frozenset())
    known = {start}
    level, length = [start], 0
    while (order, wanted) not in known:
        behind = []
        for here, done in level:
            for place in range(cords - 1):
                pair = tuple(sorted(here[place:place + 2]))
                there = here[:place] + (here[place + 1], here[place]) + here[place + 2:]
                state = (there, done | ({pair} & wanted))
                if state not in known:
                    known.add(state)
                    behind.append(state)
        level, length = behind, length + 1
    return length


def least_sum(cords, order, numbers):
    """The least sum over walks of few exchanges."""
    best = None
    walks = [(tuple(range(cords)), ())]
    for _ in range(9):
        for here, done in walks:
            if here != order or any(number and pair not in done for pair, number in numbers.items()):
                continue
            total = sum(max(done.count(pair), number) for pair, number in numbers.items())
            best = total if best is None else min(best, total)
        longer = {}
        for here, done in walks:
            for place in range(cords - 1):
                pair = tuple(sorted(here[place:place + 2]))
                there = here[:place] + (here[place + 1], here[place]) + here[place + 2:]
                longer[there, tuple(sorted(done + (pair,)))] = True
        walks = list(longer)
        if best is not None and len(walks[0][1]) > best:
            break
    return best


class TestHowFar(unittest.TestCase):
    def test_small_rows(self):
        for custom in NOT_ANY:
            for cords, most in ((2, 4), (3, 2), (4, 1)):
                rows = rows_to(cords, most)
                for row, other in product(rows, rows):
                    way = back_row(cords, row) + other
                    length = how_far(cords, row, other, custom)
                    self.assertEqual(length, fewest(cords, way, custom))
                    self.assertEqual(how_far(cords, other, row, custom), length)
                    between = row_between(cords, row, other, custom)
                    self.assertEqual(between, least_row(cords, way, custom))
                    self.assertEqual(len(between), length)
                    self.assertTrue(are_alike(cords, row + between, other, custom))

    def test_nothing_shorter_does(self):
        for custom in NOT_ANY:
            for row, other in product(some_rows(3, 4, 3), some_rows(3, 3, 3, 9)):
                between = row_between(3, row, other, custom)
                for far in rows_to(3, min(len(between), 4)):
                    if are_alike(3, row + far, other, custom):
                        self.assertEqual(far, between)
                        break
                else:
                    self.assertGreater(len(between), 4)

    def test_over_a_third_row(self):
        for custom in NOT_ANY:
            rows = some_rows(3, 6, 3)
            for row, other, third in product(rows, rows[:3], rows):
                self.assertLessEqual(
                    how_far(3, row, other, custom),
                    how_far(3, row, third, custom) + how_far(3, third, other, custom))

    def test_a_hundred_and_twenty_crossings(self):
        self.assertEqual(how_far(2, (a,) * 60, (ra,) * 60, "back"), 120)
        self.assertEqual(row_between(2, (a,) * 60, (ra,) * 60, "through"), (ra,) * 120)
        self.assertEqual(row_between(2, (ra,) * 60, (a,) * 59, "began"), (a,) * 119)
        self.assertEqual(how_far(3, LONG, FAR_LONG[::-1], "through"), 0)
        self.assertEqual(how_far(3, (a, b) * 30, (ra, rb) * 30, "through"), 120)
        between = row_between(3, (a, b) * 30, (ra, rb) * 30, "through")
        self.assertEqual(len(between), 120)
        self.assertEqual(row_between(3, LONG, LONG, "through"), ())
        for row, other in zip(some_rows(3, 3, 60), some_rows(3, 3, 60, 8)):
            for custom in ("through", "began", "twice", "never"):
                between = row_between(3, row, other, custom)
                self.assertEqual(len(between), how_far(3, row, other, custom))
                if custom != "through":
                    self.assertEqual(
                        forms_behind(3, row + between, custom), forms_behind(3, other, custom))
        # The one row of both together is asked alone: each of them may be beyond the first kinds.
        far = some_rows(4, 1, 60)[0]
        for custom in ("back", "began", "twice"):
            self.assertEqual(how_far(4, far, far + (), custom), 0)
            self.assertEqual(row_between(4, far[:59], far, custom)[0][1], far[59][1])
        for custom in ("back", "began"):
            try_great(self, 2000, how_far, 4, (a,) * 30, (ra,) * 30, custom)
            try_great(self, 2000, row_between, 5, (a,) * 30, (ra,) * 30, custom)
        try_great(self, 2000, how_far, 4, LONG, LONG, "through")
        try_great(self, 2000, row_between, 5, LONG[:30], LONG[:30], "through")


class TestFarthest(unittest.TestCase):
    def test_all(self):
        for cords in (2, 3, 4, 5):
            for custom in CUSTOMS[:4]:
                self.assertIsNone(farthest(cords, custom))
            rows = farthest(cords, "never")
            self.assertEqual(len(rows), 1)
            self.assertEqual(order_of(cords, rows[0]), tuple(range(cords))[::-1])
            self.assertEqual(rows[0], least_row(cords, rows[0], "never"))
        for cords in (2, 3, 4):
            rows = farthest(cords, "twice")
            self.assertEqual(len(rows), 1)
            self.assertEqual(len(rows[0]), cords * (cords - 1))
            self.assertEqual(order_of(cords, rows[0]), tuple(range(cords)))
            self.assertTrue(all(number % 4 == 2 for _, _, number in pair_numbers(cords, rows[0])))
            self.assertEqual(Kinds(cords, "twice").number_of(rows[0]), kinds_total(cords, "twice") - 1)
        try_great(self, 2000, farthest, 5, "twice")
        self.assertEqual(farthest(2, "twice"), ((a, a),))
        self.assertEqual(farthest(3, "never"), ((a, b, a),))


class TestWrongOnes(unittest.TestCase):
    cords = ("cords", 3, wrong_cords())
    row = ("row", (a, b, a), wrong_rows(3))
    other = ("other", (ra,), wrong_rows(3))

    def test_wrong_ones(self):
        for function in (fewest, is_shortest, least_row):
            try_refusals(self, function, self.cords, self.row, ("custom", "through", wrong_customs()))
        for function in (how_far, row_between):
            try_refusals(self, function, self.cords, self.row, self.other, ("custom", "back", wrong_customs(NOT_ANY)))
        try_refusals(self, farthest, self.cords, ("custom", "twice", wrong_customs()))


if __name__ == "__main__":
    unittest.main()
