"""Nodes of the crossings of rows that were seen or are asked, and which of them are one."""

from cordrules.filled import table_of_deeds
from cordrules.working import work_row


class Ones:
    """The nodes of rows (CORDS, ROW, COLOURS), one row after another, and which of them are one so far.

    met tells for each crossing its side and the nodes over, under and behind,
    ends for each row the nodes by places behind it, lead for each node the
    least one that is one with it.
    """

    def __init__(self, names, rows):
        self.names = names
        self.met = []
        self.ends = []
        for row in rows:
            self.ends.append(self.nodes_behind_row(row[1], row[2]))
        self.lead = list(range(names + len(self.met)))
        self.steps = []

    def nodes_behind_row(self, row, colours):
        """The nodes by places behind a row, the crossings of which are the next ones."""
        met, names = self.met, self.names

        def change(side, over, under):
            met.append((side, over, under, names + len(met)))
            return met[-1][3]

        return work_row(colours, row, change)

    def are_one(self, node, far_node):
        """Whether two nodes are one so far."""
        return self.lead[node] == self.lead[far_node]

    def make_one(self, node, far_node):
        """Makes two nodes one."""
        low, high = sorted([self.lead[node], self.lead[far_node]])
        self.lead = [low if lead == high else lead for lead in self.lead]

    def make_step(self, node, far_node, why):
        """Makes two nodes one by a step, if they are not yet."""
        if not self.are_one(node, far_node):
            self.steps.append((node, far_node, why))
            self.make_one(node, far_node)

    def close(self, custom, seen):
        """Goes all steps that follow from what was seen."""
        for number, thing in enumerate(seen):
            for place, name in enumerate(thing[3]):
                if name is not None:
                    self.make_step(self.ends[number][place], name, ("seen", number, place))
        many = -1
        while many < len(self.steps):
            many = len(self.steps)
            self.join_deeds(custom)

    def join_deeds(self, custom):
        """Goes once through the crossings and makes one what they tell to be one."""
        first = {}
        for number in range(len(self.met)):
            for word, over, told, node in told_by(custom, self.met[number]):
                key = (word, self.lead[over], self.lead[told])
                if key in first:
                    far_number, far_node = first[key]
                    self.make_step(far_node, node, ("deeds", far_number, number))
                else:
                    first[key] = (number, node)

    def has_unlike_names(self):
        """Whether no two names are one so far."""
        return self.lead[:self.names] == list(range(self.names))

    def leads(self):
        """The least node of each lot of nodes that are one, ascending."""
        return sorted(set(self.lead))

    def all_lots(self):
        """The lots of nodes that are one, ascending."""
        return lots_by_lead(self.lead)

    def bearing(self, custom):
        """The table with the lots as colours that does what the crossings do."""
        colour_of = {lead: colour for colour, lead in enumerate(self.leads())}
        deeds = []
        for side, over, under, result in self.met:
            deeds.append((side,) + tuple([colour_of[self.lead[node]] for node in (over, under, result)]))
        return table_of_deeds(len(colour_of), custom, deeds)


def told_by(custom, crossing):
    """For what a crossing tells: a word, the nodes by which it is told (the one over first), and the node told."""
    side, over, under, result = crossing
    if custom == "any":
        return ((side, over, under, result),)
    low, high = (under, result) if side == "left" else (result, under)
    return (("high", over, low, high), ("low", over, high, low))


def lots_by_lead(leads):
    """The numbers of things as lots of those with the same lead, ascending."""
    lots = {}
    for number, lead in enumerate(leads):
        lots[lead] = lots.get(lead, ()) + (number,)
    return tuple(sorted([lots[lead] for lead in lots]))
