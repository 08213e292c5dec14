"""Which customs a told rule keeps, and where an equation fails."""

from cordrules.checks import CUSTOMS, is_below, need_custom
from cordrules.errors import BadNumber
from cordrules.rules import need_colours_of, need_rule, new_colour

# How many equations a custom has, and at how many colours each is asked.
EQUATIONS = {"any": 0, "back": 2, "through": 1, "began": 1, "twice": 1, "never": 1}
ASKED_AT = {"back": 2, "through": 3, "began": 3, "twice": 2, "never": 2}


def keeps(rule, custom):
    """Whether the rule keeps the custom."""
    need_rule(rule)
    need_custom(custom)
    return does_keep(rule, custom)


def does_keep(rule, custom):
    """Likewise, where the rule and the custom are known to be such."""
    return breach_among(rule, CUSTOMS[:CUSTOMS.index(custom) + 1]) is None


def custom_of(rule):
    """The strongest custom that the rule keeps."""
    return strongest_kept(need_rule(rule))


def strongest_kept(rule):
    """Likewise, where the rule is known to be one."""
    found = breach_among(rule, CUSTOMS)
    if found is None:
        return CUSTOMS[-1]
    return CUSTOMS[CUSTOMS.index(found[0]) - 1]


def common_custom(rule, far_rule):
    """The strongest custom that both rules keep."""
    need_rule(rule)
    need_rule(far_rule)
    return CUSTOMS[min(CUSTOMS.index(strongest_kept(rule)), CUSTOMS.index(strongest_kept(far_rule)))]


def breach(rule):
    """The breach of the rule, None if it keeps every custom."""
    return breach_among(need_rule(rule), CUSTOMS)


def breach_among(rule, customs):
    """The breach, if its custom is one of the first customs, which are given."""
    if rule[0] == "table":
        return table_breach(rule, customs)
    if rule[0] == "acts":
        custom = acts_breach(rule[1])
        found = (custom, 0, None)
    else:
        custom, letter = turns_breach(rule[1], rule[2])
        found = (custom, 0, ((0, letter), (0, 0)))
    if custom in customs:
        return found
    return None


def turns_breach(modulus, weights):
    """The custom of the breach of such a rule and the first letter against it; None and None."""
    for letter, weight in enumerate(weights):
        if 2 * weight % modulus != 0:
            return "twice", letter
    for letter, weight in enumerate(weights):
        if weight != 0:
            return "never", letter
    return None, None


def acts_breach(acts):
    """The custom of the breach of such a rule, or None."""
    many = len(acts[0])
    moving = [act for act in acts if act != tuple(range(many))]
    if not moving:
        return None
    if many == 2 or (many == 4 and all([exchanges_pairs(act) for act in moving])):
        return "never"
    if many == 3 and all([moves_all(act) for act in moving]):
        return "twice"
    return "began"


def moves_all(act):
    """Whether the permutation leaves no number where it is."""
    return all([act[number] != number for number in range(len(act))])


def exchanges_pairs(act):
    """Whether each number changes places with another one."""
    return moves_all(act) and all([act[act[number]] == number for number in range(len(act))])


def table_breach(rule, customs):
    """The breach of a table, by the first customs alone."""
    for custom in customs:
        for number in range(EQUATIONS[custom]):
            if ASKED_AT[custom] == 2:
                colours = first_pair_failing(rule, custom, number)
            else:
                colours = first_triple_failing(rule[1], custom)
            if colours is not None:
                return custom, number, colours
    return None


def first_pair_failing(rule, custom, number):
    """The first two colours at which an equation fails for a table, or None."""
    for over in range(len(rule[1])):
        for under in range(len(rule[1])):
            if is_failing(rule, custom, number, (over, under)):
                return over, under
    return None


def first_triple_failing(on, custom):
    """The first three colours at which the equation of "through" or "began" fails for a table, or None."""
    # Whole lines are compared, for of 200 colours there are millions of triples.
    many = range(len(on))
    for first in many:
        for second in many:
            if custom == "through":
                one = [on[first][colour] for colour in on[second]]
                other = [on[on[first][second]][colour] for colour in on[first]]
            else:
                one = list(on[on[first][second]])
                other = list(on[second])
            if one != other:
                return first, second, [one[colour] == other[colour] for colour in many].index(False)
    return None


def fails_at(rule, custom, number, colours):
    """Whether the equation of the custom with this number fails at the colours."""
    need_rule(rule)
    need_custom(custom)
    if not is_below(number, EQUATIONS[custom]):
        raise BadNumber(number)
    need_colours_of(rule, colours, ASKED_AT[custom])
    return is_failing(rule, custom, number, colours)


def is_failing(rule, custom, number, colours):
    """Likewise, where all is known to be as it should."""
    first, second, last = colours[0], colours[1], colours[-1]
    once = new_colour(rule, "left", first, second)
    if custom == "back":
        if number == 0:
            return new_colour(rule, "right", first, once) != second
        return new_colour(rule, "left", first, new_colour(rule, "right", first, second)) != second
    if custom == "twice":
        return new_colour(rule, "left", first, once) != second
    if custom == "never":
        return once != second
    further = new_colour(rule, "left", second, last)
    if custom == "began":
        return new_colour(rule, "left", once, last) != further
    carried = new_colour(rule, "left", first, last)
    return new_colour(rule, "left", first, further) != new_colour(rule, "left", once, carried)
