"""Papers on what surely comes of what was seen, whatever the rule is."""

from cordrules.breaches import does_keep
from cordrules.checks import is_below, is_one_of, is_tuple_of, need_number
from cordrules.closing import closed_ones, need_borne, need_names_and_seen
from cordrules.errors import BadPaper
from cordrules.ones import Ones, told_by
from cordrules.parting import is_told_rule
from cordrules.rules import change_by
from cordrules.sights import need_asked, things_against
from cordrules.working import work_row


def need_place_and_name(names, custom, seen, cords, row, colours, place, name):
    """Refuses what is wrong, in this turn."""
    need_names_and_seen(names, custom, seen)
    need_asked(names, cords, row, colours)
    need_number(place, 0, cords - 1)
    need_number(name, 0, names - 1)


def need_pair_form(paper):
    """Refuses what has not the form of a paper."""
    if not is_tuple_of(paper, 2) or not is_one_of(paper[0], ("steps", "table")):
        raise BadPaper("form")
    if paper[0] == "steps" and not isinstance(paper[1], tuple):
        raise BadPaper("form")


def sure_paper(names, custom, seen, cords, row, colours, place, name):
    """A paper on whether every rule shows the name at the place behind the row that is asked."""
    need_place_and_name(names, custom, seen, cords, row, colours, place, name)
    ones = closed_ones(names, custom, seen, ((cords, row, colours),))
    need_borne(ones)
    if ones.are_one(ones.ends[-1][place], name):
        return "steps", tuple(ones.steps)
    return "table", ones.bearing(custom)


def check_sure(names, custom, seen, cords, row, colours, place, name, paper):
    """The first item of a paper that shows it."""
    need_place_and_name(names, custom, seen, cords, row, colours, place, name)
    need_pair_form(paper)
    need_borne(closed_ones(names, custom, seen))
    if paper[0] == "steps":
        ones = Ones(names, seen + ((cords, row, colours),))
        is_good = are_steps(ones, custom, seen, paper[1]) and ones.are_one(ones.ends[-1][place], name)
    else:
        is_good = is_bearing(names, custom, seen, paper[1])
        is_good = is_good and work_row(colours, row, change_by(paper[1]))[place] != name
    if not is_good:
        raise BadPaper(paper[0])
    return paper[0]


def against_paper(names, custom, seen):
    """A paper on whether no rule bears what was seen."""
    need_names_and_seen(names, custom, seen)
    ones = closed_ones(names, custom, seen)
    if ones.has_unlike_names():
        return "table", ones.bearing(custom)
    return "steps", tuple(ones.steps)


def check_against(names, custom, seen, paper):
    """The first item of a paper that shows it."""
    need_names_and_seen(names, custom, seen)
    need_pair_form(paper)
    if paper[0] == "steps":
        ones = Ones(names, seen)
        is_good = are_steps(ones, custom, seen, paper[1]) and not ones.has_unlike_names()
    else:
        is_good = is_bearing(names, custom, seen, paper[1])
    if not is_good:
        raise BadPaper(paper[0])
    return paper[0]


def is_bearing(names, custom, seen, value):
    """Whether a value is a told table with these names that keeps the custom and bears what was seen."""
    if not is_told_rule(value) or value[0] != "table" or len(value[1]) < names:
        return False
    return does_keep(value, custom) and not things_against(value, seen)


def are_steps(ones, custom, seen, steps):
    """Whether each thing is a step that follows; the nodes are made one by them."""
    for step in steps:
        if not is_step(ones, custom, seen, step):
            return False
        ones.make_one(step[0], step[1])
    return True


def is_step(ones, custom, seen, value):
    """Whether a value is a step that follows from the nodes that are one so far."""
    if not is_tuple_of(value, 3) or not is_tuple_of(value[2], 3):
        return False
    if not is_below(value[0], len(ones.lead)) or not is_below(value[1], len(ones.lead)):
        return False
    nodes = sorted(value[:2])
    word, number, far_number = value[2]
    if is_one_of(word, ("seen",)):
        return is_seen_step(ones, seen, nodes, number, far_number)
    if not is_one_of(word, ("deeds",)):
        return False
    if not is_below(number, len(ones.met)) or not is_below(far_number, len(ones.met)):
        return False
    return is_deeds_step(ones, custom, nodes, ones.met[number], ones.met[far_number])


def is_seen_step(ones, seen, nodes, number, place):
    """Whether two nodes, ascending, are what was seen at a place behind the row of a thing, and its name."""
    if not is_below(number, len(seen)) or not is_below(place, seen[number][0]):
        return False
    name = seen[number][3][place]
    return name is not None and nodes == sorted([ones.ends[number][place], name])


def is_deeds_step(ones, custom, nodes, crossing, far_crossing):
    """Whether two crossings tell that two nodes, ascending, are one."""
    for told, far_told in zip(told_by(custom, crossing), told_by(custom, far_crossing)):
        word, over, known, node = told
        far_word, far_over, far_known, far_node = far_told
        if word == far_word and ones.are_one(over, far_over) and ones.are_one(known, far_known):
            if nodes == sorted([node, far_node]):
                return True
    return False
