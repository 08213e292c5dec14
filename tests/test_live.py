"""[64]: cordrules/live.py."""

import unittest

from cordrules import errors
from cordrules.errors import BadName, BadNumber, BadRow, NothingBack, TooGreat
from cordrules.likeness import are_alike, forms_of
from cordrules.live import Plait, under
from cordrules.rows import order_of
from cordrules.rules import run_colours
from helpers import (
    CUSTOMS, FAR_LONG, LONG, NOTHING, VERY, crossings, some_rows, try_one, try_refusals, wrong_cords, wrong_customs,
    wrong_rows, wrong_table_colours, wrong_told_rules)

a, b, ra, rb = ("left", 0), ("left", 1), ("right", 0), ("right", 1)
BAD_NAMES = (None, True, 0, 7, "", "A", "abcdefghi", "a1", "a b", " a", "a\n", "_", ("a",), ["a"], {}, b"a", NOTHING)


class Model:
    """A plait as lists: the rows that were done, those that can be done again, marks."""

    def __init__(self):
        self.done, self.undone, self.marks = [], [], {}

    def row(self):
        return tuple(crossing for row in self.done for crossing in row)

    def copied(self):
        twin = Model()
        twin.done, twin.undone, twin.marks = list(self.done), list(self.undone), dict(self.marks)
        return twin


def state(plait):
    """All that can be seen of a plait, also what can be taken back and done again."""
    twin = plait.copy()
    seen = [plait.cords, plait.custom, plait.row, plait.marks, plait.order(), len(plait)]
    for move in (twin.again, twin.undo):
        rows = []
        while True:
            try:
                move()
            except NothingBack:
                break
            rows.append(twin.row)
        seen.append(rows)
    return seen


class TestPlait(unittest.TestCase):
    def test_beside_lists(self):
        for cords in (2, 3, 5):
            for seed in range(6):
                self.try_deeds(cords, CUSTOMS[seed], seed)

    def try_deeds(self, cords, custom, seed):
        plait, model = Plait(cords, custom), Model()
        for number in range(150):
            seed = (seed * 1103515245 + 12345) % 2 ** 31
            choice, other = (seed >> 12) % 9, (seed >> 18) % 5
            self.one_deed(plait, model, choice, other, number)
            self.assertEqual(plait.row, model.row())
            self.assertEqual(plait.marks, tuple(sorted(model.marks.items())))
            self.assertEqual(len(plait), len(model.row()))
            self.assertEqual(plait.order(), order_of(cords, model.row()))

    def one_deed(self, plait, model, choice, other, number):
        cords = plait.cords
        if choice < 3:
            row = (crossings(cords)[(other + number) % (2 * cords - 2)],)
            move = lambda: plait.cross(row[0])
        elif choice < 5:
            row = some_rows(cords, 1, other * 3, number + 1)[0]
            move = lambda: plait.work(row)
        if choice < 5:
            if len(model.row()) + len(row) > 60:
                self.assertRaises(TooGreat, move)
            else:
                self.assertIsNone(move())
                model.done.append(row)
                model.undone = []
        elif choice == 8:
            name = "abcde"[other]
            self.assertIsNone(plait.mark(name))
            model.marks[name] = model.row()
        else:
            source, goal = (model.done, model.undone) if choice < 7 else (model.undone, model.done)
            move = plait.undo if choice < 7 else plait.again
            if other >= len(source):
                self.assertRaises(NothingBack, move, many=other + 1)
                return
            self.assertIsNone(move(many=other + 1) if other else move())
            for _ in range(other + 1):
                goal.append(source.pop())

    def test_deeds(self):
        plait = Plait(3, "any")
        plait.cross(a)
        plait.work((b, ra))
        plait.work(())
        self.assertEqual((plait.row, len(plait), plait.order()), ((a, b, ra), 3, (2, 1, 0)))
        plait.undo()
        self.assertEqual(plait.row, (a, b, ra))
        plait.undo()
        self.assertEqual(plait.row, (a,))
        plait.mark("m")
        plait.again(many=2)
        self.assertEqual(plait.row, (a, b, ra))
        plait.undo(many=3)
        self.assertEqual(plait.row, ())
        plait.work(())
        self.assertRaises(NothingBack, plait.again)
        self.assertEqual(plait.marks, (("m", (a,)),))
        plait.undo()
        self.assertRaises(NothingBack, plait.undo)

    def test_sixty(self):
        for custom in CUSTOMS:
            plait = Plait(2, custom)
            plait.work((a,) * 58)
            for move, value in ((plait.work, (a,) * 3), (plait.work, (a,) * 60)):
                before = state(plait)
                self.too_great(60, move, value)
                self.assertEqual(state(plait), before)
            plait.work((ra, ra))
            plait.work(())
            self.assertEqual(len(plait), 60)
            self.too_great(60, plait.cross, a)
            self.too_great(60, plait.work, (a,))
            plait.undo(many=2)
            plait.cross(a)
            plait.cross(a)
            self.assertEqual(plait.row, (a,) * 60)

    def too_great(self, most, function, *arguments):
        with self.assertRaises(TooGreat) as caught:
            function(*arguments)
        self.assertEqual(caught.exception.most, most)

    def test_marks(self):
        for custom in CUSTOMS:
            plait = Plait(3, custom)
            plait.mark("start")
            plait.work((a, b, a))
            plait.mark("abcdefgh")
            plait.undo()
            plait.work((b, a, b))
            plait.mark("z")
            plait.cross(a)
            plait.mark("z")
            self.assertEqual(plait.marks, (("abcdefgh", (a, b, a)), ("start", ()), ("z", (b, a, b, a))))
            for name, row in plait.marks:
                for more in ((), (ra,), (a, ra), (a,) * 3):
                    twin = plait.copy()
                    twin.work(more)
                    self.assertIs(twin.is_home(name), are_alike(3, twin.row, row, custom))
        plait = Plait(3, "through")
        plait.mark("a")
        plait.work(LONG)
        self.assertRaises(TooGreat, plait.is_home, "a")
        self.assertRaises(BadName, plait.is_home, "b")
        self.assertRaises(TooGreat, plait.forms)
        twin = Plait(3, "back")
        twin.work(FAR_LONG)
        twin.mark("long")
        self.assertIs(twin.is_home("long"), True)
        self.too_great(2000, twin.forms)

    def test_forms_and_colours(self):
        rule = ("turns", 7, (1, 3))
        for custom in CUSTOMS:
            plait = Plait(4, custom)
            for row in some_rows(4, 3, 4):
                plait.work(row)
                self.assertEqual(plait.forms(), forms_of(4, plait.row, custom))
                colours = ((0, 1), (1, 0), (2, 0), (6, 1))
                self.assertEqual(plait.colours(rule, colours), run_colours(4, plait.row, rule, colours))

    def test_equal(self):
        plait, twin = Plait(3, "any"), Plait(3, "any")
        self.assertTrue(plait == twin)
        self.assertFalse(plait != twin)
        plait.work((a, b))
        self.assertFalse(plait == twin)
        self.assertTrue(plait != twin)
        twin.cross(a)
        twin.cross(b)
        twin.mark("m")
        self.assertTrue(plait == twin)
        for other in (Plait(3, "back"), Plait(4, "any")):
            other.work((a, b))
            self.assertFalse(plait == other)
        for other in (None, 0, (a, b), plait.row, "any", NOTHING, plait.trial()):
            self.assertFalse(plait == other)
            self.assertTrue(plait != other)
        for wrong in (lambda: plait + twin, lambda: plait < twin, lambda: plait[0], lambda: list(plait),
            lambda: a in plait):
            self.assertRaises(TypeError, wrong)
        self.assertEqual(len(Plait(2, "never")), 0)

    def test_copies(self):
        plait = Plait(3, "twice")
        plait.work((a, b))
        plait.cross(ra)
        plait.mark("m")
        plait.undo()
        twin = plait.copy()
        self.assertEqual(state(twin), state(plait))
        before = state(plait)
        twin.again()
        twin.mark("n")
        twin.cross(b)
        self.assertEqual(state(plait), before)
        self.assertEqual(twin.row, (a, b, ra, b))
        before = state(twin)
        plait.undo()
        plait.mark("m")
        self.assertEqual(state(twin), before)


class Stop(Exception):
    pass


class TestTrials(unittest.TestCase):
    def made(self):
        plait = Plait(3, "began")
        plait.work((a, b))
        plait.cross(ra)
        plait.mark("m")
        plait.undo()
        return plait

    def test_block_ends(self):
        plait = self.made()
        before = state(plait)
        with plait.trial() as one:
            self.assertIs(one, plait)
            one.again()
            one.cross(rb)
            one.mark("m")
            one.mark("n")
            self.assertEqual(plait.row, (a, b, ra, rb))
        self.assertEqual(state(plait), before)

    def test_errors_go_on(self):
        for error in (Stop, NothingBack, KeyError):
            plait = self.made()
            before = state(plait)
            with self.assertRaises(error):
                with plait.trial() as one:
                    one.undo()
                    one.work((b, b))
                    raise error()
            self.assertEqual(state(plait), before)

    def test_one_within_another(self):
        plait = self.made()
        before = state(plait)
        with plait.trial() as one:
            one.cross(b)
            inner = state(plait)
            with one.trial() as other:
                self.assertIs(other, plait)
                other.undo(many=2)
                other.mark("x")
            self.assertEqual(state(plait), inner)
            try:
                with one.trial():
                    plait.cross(b)
                    raise Stop()
            except Stop:
                self.assertEqual(state(plait), inner)
        self.assertEqual(state(plait), before)

    def test_begins_with_the_block(self):
        plait = self.made()
        trial = plait.trial()
        plait.work((rb,))
        before = state(plait)
        with trial:
            plait.undo()
        self.assertEqual(state(plait), before)

    def test_under(self):
        plait = self.made()
        before = state(plait)

        def deed(one):
            one.work((a, a))
            return one.row

        self.assertEqual(under(plait.trial(), deed), (a, b, a, a))
        self.assertEqual(under(manager=plait.trial(), deed=len), 2)
        self.assertEqual(state(plait), before)
        self.assertRaises(BadRow, under, plait.trial(), lambda one: one.cross(None))
        self.assertEqual(state(plait), before)
        self.assertIsNone(under(plait.trial(), lambda one: under(one.trial(), lambda far: far.cross(b))))
        self.assertEqual(state(plait), before)


class TestRefusals(unittest.TestCase):
    def test_made(self):
        for value, error, field in wrong_cords():
            try_one(self, Plait, {"cords": value, "custom": "any"}, value, error, field)
            try_one(self, Plait, {"cords": value, "custom": None}, value, error, field)
        for value, error, field in wrong_customs():
            try_one(self, Plait, {"cords": 2, "custom": value}, value, error, field)
        plait = Plait(custom="any", cords=4)
        self.assertEqual((plait.cords, plait.custom, plait.row, plait.marks), (4, "any", (), ()))

    def test_moves(self):
        plait = Plait(3, "through")
        plait.work((a, b))
        plait.cross(crossing=ra)
        plait.mark(name="m")
        plait.undo()
        before = state(plait)
        for row, _, _ in wrong_rows(3):
            if isinstance(row, tuple) and len(row) == 1:
                try_one(self, plait.cross, {"crossing": row[0]}, row, BadRow, 0)
        try_refusals(self, plait.copy().work, ("row", (a,), wrong_rows(3)))
        for value, error, field in wrong_rows(3):
            try_one(self, plait.work, {"row": value}, value, error, field)
        for value in (0, -1, -10 ** 30, None, True, False, "1", (), (1,), [1], {}, NOTHING):
            try_one(self, plait.undo, {"many": value}, value, BadNumber, VERY)
            try_one(self, plait.again, {"many": value}, value, BadNumber, VERY)
        for value in (2, 10 ** 30):
            self.assertRaises(NothingBack, plait.undo, many=value)
            self.assertRaises(NothingBack, plait.again, many=value)
        self.assertRaises(TypeError, plait.undo, 1)
        self.assertRaises(TypeError, plait.again, 1)
        for value in BAD_NAMES:
            try_one(self, plait.mark, {"name": value}, value, BadName, VERY)
        for value in BAD_NAMES + ("n", "M", "mm"):
            try_one(self, plait.is_home, {"name": value}, value, BadName, VERY)
        self.assertEqual(state(plait), before)
        full = Plait(2, "any")
        full.work((a,) * 60)
        for value in (None, b, ("left", True)):
            try_one(self, full.cross, {"crossing": value}, value, BadRow, 0)
        try_one(self, full.work, {"row": (a, b)}, 0, BadRow, 1)
        self.assertEqual(full.row, (a,) * 60)

    def test_colours(self):
        plait = Plait(3, "back")
        plait.work((a, rb))
        good = ("table", ((0, 1), (1, 0)), ((0, 1), (1, 0)))
        try_refusals(self, plait.colours, ("rule", good, wrong_told_rules()),
                     ("colours", (0, 1, 1), wrong_table_colours(3, 2)))

    def test_all_errors_are_of_the_package(self):
        plait = Plait(2, "any")
        for move, arguments in ((plait.undo, {}), (plait.mark, {"name": 0}), (plait.cross, {"crossing": 0})):
            self.assertRaises(errors.CordError, move, **arguments)


if __name__ == "__main__":
    unittest.main()
