"""States of the deeds that forms by "any" tell, and the rows that do all these deeds."""

from cordrules.checks import has_each_once, is_below, is_tuple_of
from cordrules.errors import TooGreat
from cordrules.nodes import SIDE_OF_WORD, Nodes
from cordrules.working import all_crossings

MOST_DEEDS = 60


class States:
    """The deeds of forms, which are numbered terms by places, and what crossings can do of them.

    deeds tells for each cord, ascending, its deeds, A as a number; grown tells
    the numbers of its forms behind none of them, one of them, and so on.
    """

    def __init__(self, nodes, numbers):
        cords = len(numbers)
        self.crossings = all_crossings(cords)
        self.deeds = [()] * cords
        self.grown = [()] * cords
        order = []
        for number in numbers:
            deeds, grown = deeds_on_way(nodes, number)
            cord = nodes.made[grown[0]][1]
            self.deeds[cord] = deeds
            self.grown[cord] = grown
            order.append(cord)
        self.first = (tuple(range(cords)), (0,) * cords)
        self.last = (tuple(order), tuple([len(deeds) for deeds in self.deeds]))

    def need_few(self):
        """Refuses too many deeds of all cords together."""
        if sum(self.last[1]) > MOST_DEEDS:
            raise TooGreat(MOST_DEEDS)

    def is_state(self, value):
        """Whether a value is a state."""
        cords = len(self.deeds)
        if not is_tuple_of(value, 2) or not has_each_once(value[0], cords) or not is_tuple_of(value[1], cords):
            return False
        return all([is_below(done, len(deeds) + 1) for done, deeds in zip(value[1], self.deeds)])

    def nexts_of(self, state):
        """The pairs of a crossing that fits the state and the state to which it leads, ascending."""
        order, done = state
        nexts = []
        for crossing in self.crossings:
            side, place = crossing
            low, high = order[place], order[place + 1]
            over, under = (low, high) if side == "left" else (high, low)
            at = done[under]
            if at < len(self.deeds[under]) and self.deeds[under][at] == (side, self.grown[over][done[over]]):
                behind = order[:place] + (high, low) + order[place + 2:]
                nexts.append((crossing, (behind, done[:under] + (at + 1,) + done[under + 1:])))
        return nexts

    def reached(self):
        """All states to which fitting crossings lead from the first one, those with fewer deeds done first."""
        known = [self.first]
        level = [self.first]
        while level:
            behind = {}
            for state in level:
                for _, far_state in self.nexts_of(state):
                    behind[far_state] = True
            level = list(behind)
            known.extend(level)
        return known

    def ways(self):
        """For each state that is reached, how many rows lead from it to the last one."""
        ways = {}
        for state in self.reached()[::-1]:
            if state == self.last:
                ways[state] = 1
            else:
                ways[state] = sum([ways[behind] for _, behind in self.nexts_of(state)])
        return ways

    def row_with(self, ways, number):
        """The row with this number, ascending, among those that lead from the first state to the last one."""
        row = []
        state = self.first
        while state != self.last:
            for crossing, behind in self.nexts_of(state):
                if number < ways[behind]:
                    row.append(crossing)
                    state = behind
                    break
                number -= ways[behind]
        return tuple(row)

    def number_of_row(self, row):
        """The number of a row that leads from the first state to the last one."""
        ways = self.ways()
        number = 0
        state = self.first
        for done in row:
            nexts = self.nexts_of(state)
            number += sum([ways[behind] for crossing, behind in nexts if crossing < done])
            state = [behind for crossing, behind in nexts if crossing == done][0]
        return number


def deeds_on_way(nodes, number):
    """The deeds of the cord from which a numbered term comes, and the numbers of its forms behind them."""
    deeds, grown = [], [number]
    while nodes.made[number][0] != "cord":
        word, over, number = nodes.made[number]
        deeds.append((SIDE_OF_WORD[word], over))
        grown.append(number)
    return tuple(deeds[::-1]), tuple(grown[::-1])


def states_of(forms):
    """The states of forms by "any"."""
    nodes = Nodes()
    return States(nodes, tuple([nodes.number_of(form, "any") for form in forms]))
