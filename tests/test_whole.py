"""[0] to [4], over all parts: nothing is changed that is passed, equal calls tell the same, operators."""

import copy
import operator
import unittest

from cordrules.closing import sure_names
from cordrules.desk import Desk
from cordrules.guide import Guide
from cordrules.kinds import Kinds
from cordrules.live import Plait
from cordrules.sheets import judged, sheet_told
from cordrules.texts import forms_text, read_forms
from cordrules.trials import best_plan
from helpers import CUSTOMS, NOTHING
from looking import EMPTY, a, b, ra

OPERATORS = (operator.add, operator.sub, operator.mul, operator.floordiv, operator.mod, operator.and_, operator.or_,
             operator.xor, operator.lshift, operator.rshift, operator.lt, operator.le, operator.gt, operator.ge,
             operator.contains, operator.getitem)


def objects():
    """An object of each class that is no error."""
    plait = Plait(3, "began")
    return [plait, plait.trial(), Kinds(3, "twice"), Guide(plait, (), (a,)), Desk()]


class TestOperators(unittest.TestCase):
    def test_none_is_described(self):
        for one in objects():
            for other in objects() + [None, 0, 1, "row", (), (a,), [], {}, NOTHING]:
                for sign in OPERATORS:
                    if not (sign is operator.contains and isinstance(other, (tuple, list, dict))):
                        self.assertRaises(TypeError, sign, one, other)
            self.assertRaises(TypeError, operator.neg, one)
            self.assertRaises(TypeError, list, one)
            if not isinstance(one, Plait):
                self.assertRaises(TypeError, len, one)

    def test_equal(self):
        firsts, seconds = objects(), objects()
        for one, other in zip(firsts, seconds):
            self.assertTrue(one == one)
            self.assertFalse(one != one)
            for far in firsts + seconds + [None, 0, "", (), NOTHING]:
                is_so = far is one or (isinstance(one, Plait) and isinstance(far, Plait))
                self.assertIs(one == far, is_so)
                self.assertIs(one != far, not is_so)
                self.assertIs(far == one, is_so)
            self.assertIs(one == other, isinstance(one, Plait))


class TestCalls(unittest.TestCase):
    def test_equal_calls(self):
        seen = ((2, (a,), (0, 1), (1, None)),)
        menu = ((2, (a,), (0, 1)), (3, (b, ra), (0, 1, 1)))
        text = "cords 2\nrow a L0\nrow b -\nalike any a b"
        for function, arguments in ((best_plan, (EMPTY, "any", seen, menu)), (judged, (text,)), (sheet_told, (text,)),
                                    (sure_names, (2, "back", seen, 2, (a, a), (0, 1))),
                                    (read_forms, (2, "never / c1 / c0"))):
            before = copy.deepcopy(arguments)
            self.assertEqual(function(*arguments), function(*before))
            self.assertEqual(arguments, before)

    def test_plaits_tell_what_the_text_tells(self):
        for custom in CUSTOMS:
            plait, desk = Plait(3, custom), Desk()
            desk.say("plait 3 " + custom)
            for word, crossing in (("L0", a), ("L1", b), ("R0", ra)):
                plait.cross(crossing)
                desk.say(word)
                self.assertEqual(read_forms(3, desk.say("forms")), (custom, plait.forms()))
                self.assertEqual(desk.say("forms"), forms_text(3, custom, plait.forms()))


if __name__ == "__main__":
    unittest.main()
