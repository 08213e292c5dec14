"""Terms that are numbered, so that a term that occurs again needs one number only."""

WORD_OF_SIDE = {"left": "on", "right": "off"}
SIDE_OF_WORD = {"on": "left", "off": "right"}


class Nodes:
    """Numbered terms, equal ones with one number; the parts of a term have lesser numbers than it.

    made tells for each number ("cord", I), or "on" or "off" with two numbers;
    sizes tells how many parts the term has, terms the term itself.
    """

    def __init__(self):
        self.made = []
        self.sizes = []
        self.terms = []
        self.known = {}

    def cord(self, cord):
        """The number of a cord."""
        return self.numbered(("cord", cord), 1, ("cord", cord))

    def joined(self, side, over, under):
        """The number of what becomes by "any" of under, if it goes by the side under over."""
        word = WORD_OF_SIDE[side]
        made = (word, over, under)
        # Terms share their parts: as tuples written out they may be far too long.
        term = (word, self.terms[over], self.terms[under])
        return self.numbered(made, self.sizes[over] + self.sizes[under] + 1, term)

    def joined_least(self, side, over, under):
        """Likewise by "back", where both are least."""
        made = self.made[under]
        if made[0] != "cord" and made[0] != WORD_OF_SIDE[side] and made[1] == over:
            return made[2]
        return self.joined(side, over, under)

    def numbered(self, made, size, term):
        """The number of what is so made, a new one if there is none."""
        if made not in self.known:
            self.known[made] = len(self.made)
            self.made.append(made)
            self.sizes.append(size)
            self.terms.append(term)
        return self.known[made]

    def change(self, custom):
        """What becomes of a number that goes under, by "any" or by "back"."""
        if custom == "any":
            return self.joined
        return self.joined_least

    def number_of(self, term, custom):
        """The number of a term, by "back" that of its least term."""
        if term[0] == "cord":
            return self.cord(term[1])
        change = self.change(custom)
        over = self.number_of(term[1], custom)
        return change(SIDE_OF_WORD[term[0]], over, self.number_of(term[2], custom))

    def parts_among(self, numbers):
        """The numbers of all parts of the terms with these numbers, ascending."""
        inside = {number: True for number in numbers}
        for number in range(len(self.made) - 1, -1, -1):
            if number in inside and self.made[number][0] != "cord":
                inside[self.made[number][1]] = True
                inside[self.made[number][2]] = True
        return sorted(inside)

    def worked_out(self, start, change):
        """For each number what becomes of its term, if the cords stand for the things at the start."""
        found = []
        for made in self.made:
            if made[0] == "cord":
                found.append(start[made[1]])
            else:
                found.append(change(SIDE_OF_WORD[made[0]], found[made[1]], found[made[2]]))
        return found
