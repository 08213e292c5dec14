"""What tests of unknown tables need: gaps, seen things, and wrong ones."""

from itertools import product

from cordrules.errors import BadRule, BadSeen
from helpers import NOTHING, some_rows, table_change, worked, wrong_rows

a, b, ra, rb = ("left", 0), ("left", 1), ("right", 0), ("right", 1)
EMPTY = ("table", ((None, None), (None, None)), ((None, None), (None, None)))
PART = ("table", ((0, None), (None, 1)), ((None, None), (1, None)))


def gaps(many):
    """The gapped table of which nothing is told."""
    return ("table", ((None,) * many,) * many, ((None,) * many,) * many)


def gapped_from(rule, seed):
    """A table with gaps at places without a plan."""
    squares = []
    for square in rule[1:]:
        lines = []
        for line in square:
            items = []
            for item in line:
                seed = (seed * 1103515245 + 12345) % 2 ** 31
                items.append(item if (seed >> 12) % 3 else None)
            lines.append(tuple(items))
        squares.append(tuple(lines))
    return ("table", squares[0], squares[1])


def shown_by(rule, cords, row, colours, hidden=()):
    """What was seen of a row by a table, without some places."""
    behind = worked(colours, row, table_change(rule))
    return cords, row, colours, tuple(None if place in hidden else colour for place, colour in enumerate(behind))


def some_seen(rule, many, seed=3):
    """So many things that are seen by a table."""
    found = []
    for number in range(many):
        cords = 2 + (number + seed) % 3
        row = some_rows(cords, 1, 1 + (number + seed) % 4, seed + number)[0]
        colours = tuple((number * place + seed) % len(rule[1]) for place in range(cords))
        found.append(shown_by(rule, cords, row, colours, ((number + seed) % cords,)))
    return tuple(found)


def does_fit(rule, gapped, seen):
    """Whether a table has what is told and shows what was seen, from the words of the document."""
    for square, told in zip(rule[1:], gapped[1:]):
        for line, told_line in zip(square, told):
            if any(item not in (None, colour) for item, colour in zip(told_line, line)):
                return False
    for _, row, colours, sight in seen:
        behind = worked(colours, row, table_change(rule))
        if any(looked not in (None, colour) for looked, colour in zip(sight, behind)):
            return False
    return True


def wrong_gapped():
    """What is no gapped table, with the part that is wrong."""
    square = ((0, None), (1, 0))
    whole = [None, True, 0, "table", "", [], {}, NOTHING, (), ("table",), ("table", square), ("table", square, square,
             0), ["table", square, square], ("acts", square, square), ("turns", 2, (0,)), ("acts", ((0, 1),)),
             (None, square, square), (["table"], square, square), (True, square, square)]
    wrong = [(value, BadRule, None) for value in whole]
    squares = [None, True, 2, "on", (), [], list(square), ((0, None),), ((0, 1), (None,)), ((0, 1), (None, 2)),
               ((0, 1), (1, -1)), ((None, True), (0, 1)), ((0, 1), (False, 1)), ((0, 1), [1, 0]), ((0, 1), None),
               ((0, 1), (1, "0")), ((0, 1), (1, (0,))), ((0,), (1,)), ((0,) * 4,) * 4, ((None,) * 4,) * 4, NOTHING,
               (None, None), ((0, 10 ** 30), (0, 0))]
    wrong += [(("table", value, square), BadRule, "on") for value in squares]
    wrong += [(("table", value, None), BadRule, "on") for value in squares]
    wrong += [(("table", square, value), BadRule, "off") for value in squares + [((0,),), ((None,),), ((0,) * 3,) * 3]]
    return wrong


def wrong_colour_things(many):
    """What is no colour below many, nor None."""
    return [True, False, many, -1, "0", "", (0,), [0], (), {}, 10 ** 30, NOTHING]


def wrong_trials(many):
    """What is no trial with colours below many."""
    good = (2, (a, ra), (0, 0))
    things = [None, True, 0, "abc", "", (), good[:2], good + ((),) * 2, list(good), {}, [], NOTHING]
    for cords in (None, True, False, 1, 6, 0, -1, "2", (2,), [2], 10 ** 30, NOTHING):
        things.append((cords,) + good[1:])
    for row, _, _ in wrong_rows(2):
        things.append((2, row, (0, 0)))
    for colours in [None, True, 0, "", "00", [], [0, 0], (), (0,), (0, 0, 0), {}, NOTHING, (None, 0), (0, None)]:
        things.append((2, (a,), colours))
    for colour in wrong_colour_things(many):
        things += [(2, (a,), (colour, 0)), (2, (a,), (0, colour))]
    things += [(1, (), (0,)), (6, (), (0,) * 6), (0, (), ()), (True, (), (0,))]
    return things + [(3, (a,), (0, 0)), (3, (("left", 2),), (0, 0, 0)), (2, (b,), (0, 0))]


def wrong_seen(many):
    """What was not seen of colours below many."""
    good = (2, (a, ra), (0, 0), (0, None))
    whole = [None, True, 0, "", "abc", [], [good], {}, NOTHING, (good,) * 13, (None,) * 13]
    wrong = [(value, BadSeen, None) for value in whole]
    things = []
    for trial in wrong_trials(many):
        if isinstance(trial, tuple) and len(trial) == 3:
            trial += ((None,) * len(trial[2]) if isinstance(trial[2], tuple) else (0, None),)
        things.append(trial)
    things += [good[:3], good + (0,), list(good), (3, (a,), (0, 0, 0), (0, 0))]
    for sight in [None, True, 0, "", "00", [], [0, 0], (), (0,), (None,), (0, 0, 0), {}, NOTHING]:
        things.append(good[:3] + (sight,))
    for colour in wrong_colour_things(many):
        things += [good[:3] + ((colour, 0),), good[:3] + ((None, colour),)]
    wrong += [((thing,), BadSeen, 0) for thing in things]
    wrong += [((good, good, thing, None), BadSeen, 2) for thing in things]
    return wrong + [((good,) * 11 + (None,), BadSeen, 11)]


def wrong_menus(many):
    """What is no menu with colours below many."""
    good = (2, (a, ra), (0, 0))
    whole = [None, True, 0, "", "abc", [], [good], {}, NOTHING, (), (good,) * 9, (None,) * 9]
    wrong = [(value, BadSeen, None) for value in whole]
    things = wrong_trials(many) + [good + ((None, None),), good + ((0, 0),)]
    wrong += [((thing,), BadSeen, 0) for thing in things]
    wrong += [((good, good, thing, None), BadSeen, 2) for thing in things]
    return wrong + [((good,) * 7 + (None,), BadSeen, 7)]


def one_by_steps(names, custom, seen, asked=()):
    """Which nodes are one, by going through the steps of the document again and again: a set for each node."""
    met, ends = [], []
    for _, row, colours in [thing[:3] for thing in seen] + list(asked):
        nodes = list(colours)
        for side, place in row:
            low, high = nodes[place], nodes[place + 1]
            new = names + len(met)
            met.append((side, low, high, new) if side == "left" else (side, high, low, new))
            nodes[place], nodes[place + 1] = (new, low) if side == "left" else (high, new)
        ends.append(tuple(nodes))
    one = [{node} for node in range(names + len(met))]

    def join(node, far):
        if far in one[node]:
            return False
        both = one[node] | one[far]
        for each in both:
            one[each] = both
        return True

    for (_, _, _, sight), end in zip(seen, ends):
        for name, node in zip(sight, end):
            if name is not None:
                join(node, name)
    changed = True
    while changed:
        changed = False
        for (side, over, under, result), (far_side, far_over, far_under, far_result) in product(met, repeat=2):
            if far_over not in one[over]:
                continue
            if custom == "any":
                if side == far_side and far_under in one[under]:
                    changed = join(result, far_result) or changed
                continue
            low, high = (under, result) if side == "left" else (result, under)
            far_low, far_high = (far_under, far_result) if far_side == "left" else (far_result, far_under)
            if far_low in one[low]:
                changed = join(high, far_high) or changed
            if far_high in one[high]:
                changed = join(low, far_low) or changed
    return one, ends, met


def long_seen(names, many, length):
    """Things that were seen, so many, with rows of so many crossings."""
    return tuple((2, (a,) * length, (number % names, 0), (None, None)) for number in range(many))
