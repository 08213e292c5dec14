"""Terms: their parts, their least terms, their colours."""

from cordrules.checks import SIDES, is_below, is_one_of, is_tuple_of, need_cords, need_custom
from cordrules.errors import BadForm, BadName, TooGreat
from cordrules.nodes import Nodes
from cordrules.rules import change_by, need_colours

MOST_PARTS = 2000
MOST_LEVELS = 61


def need_term(cords, term):
    """The term itself."""
    need_cords(cords)
    place = wrong_place(cords, term)
    if place is not None:
        raise BadForm(place)
    return term


def wrong_place(cords, value):
    """The indexes by which one goes down to the first thing that is wrong in a value, None if it is a term."""
    waiting = [((), value)]
    looked = 0
    while waiting:
        path, thing = waiting.pop()
        looked += 1
        if looked > MOST_PARTS or len(path) >= MOST_LEVELS:
            return ()
        if is_tuple_of(thing, 3) and is_one_of(thing[0], ("on", "off")):
            waiting.append((path + (2,), thing[2]))
            waiting.append((path + (1,), thing[1]))
        elif not is_cord_term(cords, thing):
            return path
    return None


def is_cord_term(cords, value):
    """Whether a value is the term of a cord."""
    return is_tuple_of(value, 2) and is_one_of(value[0], ("cord",)) and is_below(value[1], cords)


def parts_of(cords, term):
    """How many parts the term has."""
    need_term(cords, term)
    return size_of(term, "any")


def size_of(term, custom):
    """How many parts a term has, by "back" its least term."""
    nodes = Nodes()
    return nodes.sizes[nodes.number_of(term, custom)]


def cord_of(cords, term):
    """The cord that the term comes from."""
    need_term(cords, term)
    return cord_below(term)


def cord_below(term):
    """Likewise, where the term is known to be one."""
    while term[0] != "cord":
        term = term[2]
    return term[1]


def is_least(cords, term):
    """Whether the term is least."""
    need_term(cords, term)
    return is_least_term(term)


def is_least_term(term):
    """Likewise, where the term is known to be one."""
    return size_of(term, "back") == size_of(term, "any")


def least_term(cords, term):
    """The least term of the term."""
    need_term(cords, term)
    return least_of(term)


def least_of(term):
    """Likewise, where the term is known to be one."""
    nodes = Nodes()
    return nodes.terms[nodes.number_of(term, "back")]


def term_behind(cords, side, term, far_term, custom):
    """The form of a cord that had far_term and goes under a cord with term."""
    need_cords(cords)
    if not is_one_of(side, SIDES):
        raise BadName(side)
    need_term(cords, term)
    need_term(cords, far_term)
    need_custom(custom, ("any", "back"))
    nodes = Nodes()
    change = nodes.change(custom)
    over = nodes.number_of(term, custom)
    return need_short(nodes, change(side, over, nodes.number_of(far_term, custom)))


def need_short(nodes, number):
    """The term with this number, if it has not too many parts."""
    if nodes.sizes[number] > MOST_PARTS:
        raise TooGreat(MOST_PARTS)
    return nodes.terms[number]


def colour_of_term(cords, rule, colours, term):
    """The colour of the term, the cords having these colours."""
    need_colours(cords, rule, colours)
    need_term(cords, term)
    nodes = Nodes()
    number = nodes.number_of(term, "any")
    return nodes.worked_out(colours, change_by(rule))[number]
