"""What surely comes of what was seen, whatever the rule is."""

from cordrules.checks import MOST_CROSSINGS, need_custom, need_number
from cordrules.errors import BadSeen
from cordrules.ones import Ones, lots_by_lead
from cordrules.sights import need_asked, need_seen

MOST_NAMES = 12


def need_names_and_seen(names, custom, seen):
    """Refuses what is wrong, in this turn."""
    need_number(names, 1, MOST_NAMES)
    need_custom(custom, ("any", "back"))
    need_seen(names, seen)
    if sum([len(thing[1]) for thing in seen]) > MOST_CROSSINGS:
        raise BadSeen("many")


def closed_ones(names, custom, seen, asked=()):
    """The nodes of the rows that were seen, and of those that are asked behind them, as far as they are one."""
    ones = Ones(names, seen + asked)
    ones.close(custom, seen)
    return ones


def need_borne(ones):
    """Refuses what no rule bears."""
    if not ones.has_unlike_names():
        raise BadSeen("against")


def asked_ones(names, custom, seen, cords, row, colours):
    """The nodes with those of a row that is asked, where some rule must bear what was seen."""
    need_names_and_seen(names, custom, seen)
    need_asked(names, cords, row, colours)
    ones = closed_ones(names, custom, seen, ((cords, row, colours),))
    need_borne(ones)
    return ones


def nodes_behind(names, custom, seen, cords, row, colours):
    """The nodes by places behind a row that is asked."""
    need_names_and_seen(names, custom, seen)
    need_asked(names, cords, row, colours)
    return Ones(names, seen + ((cords, row, colours),)).ends[-1]


def one_lots(names, custom, seen):
    """The lots of nodes that are one, ascending."""
    need_names_and_seen(names, custom, seen)
    return closed_ones(names, custom, seen).all_lots()


def is_borne(names, custom, seen):
    """Whether some rule bears what was seen."""
    need_names_and_seen(names, custom, seen)
    return closed_ones(names, custom, seen).has_unlike_names()


def bearing_table(names, custom, seen):
    """The bearing table, None if no rule bears what was seen."""
    need_names_and_seen(names, custom, seen)
    ones = closed_ones(names, custom, seen)
    if not ones.has_unlike_names():
        return None
    return ones.bearing(custom)


def sure_names(names, custom, seen, cords, row, colours):
    """By places the name that every rule shows behind the row that is asked, otherwise None."""
    ones = asked_ones(names, custom, seen, cords, row, colours)
    # Names are the least nodes: a node that is one with a name has it as its lead.
    leads = [ones.lead[node] for node in ones.ends[-1]]
    return tuple([lead if lead < names else None for lead in leads])


def same_places(names, custom, seen, cords, row, colours):
    """The lots of places that show the same colour by every rule behind the row that is asked, ascending."""
    ones = asked_ones(names, custom, seen, cords, row, colours)
    return lots_by_lead([ones.lead[node] for node in ones.ends[-1]])
