"""The tables that are left, as trials tell them apart."""

from cordrules.errors import TooGreat
from cordrules.rules import change_by
from cordrules.working import work_row

MOST_PARTS = 2000


class Left:
    """Tables, ascending, in lots of those that are one to a menu; a part is a tuple of numbers of lots.

    lots tells the tables of each lot, sights what each trial shows by them.
    Behind a call of settle, best tells for each part of more lots than one to
    which trials lead the least number with which a plan of the least depth
    begins, depths this depth.
    """

    def __init__(self, tables, menu):
        lots = {}
        for rule in tables:
            change = change_by(rule)
            sights = tuple([work_row(colours, row, change) for _, row, colours in menu])
            lots[sights] = lots.get(sights, ()) + (rule,)
        self.many = len(menu)
        self.sights = list(lots)
        self.lots = tuple([lots[sights] for sights in lots])
        self.whole = tuple(range(len(lots)))
        self.best = {}
        self.depths = {}

    def branches(self, part, trial):
        """The pairs of what the trial shows by a part and the part by which it does, ascending."""
        found = {}
        for number in part:
            sight = self.sights[number][trial]
            found[sight] = found.get(sight, ()) + (number,)
        return [(sight, found[sight]) for sight in sorted(found)]

    def parts(self):
        """All parts of more lots than one to which trials lead, those with fewer lots first."""
        known = {self.whole: True} if len(self.whole) > 1 else {}
        waiting = list(known)
        while waiting:
            part = waiting.pop()
            for trial in range(self.many):
                for _, branch in self.branches(part, trial):
                    if len(branch) > 1 and branch not in known:
                        known[branch] = True
                        waiting.append(branch)
            if len(known) > MOST_PARTS:
                raise TooGreat(MOST_PARTS)
        return sorted(known, key=len)

    def settle(self):
        """Works out the best trials."""
        for part in self.parts():
            for trial in range(self.many):
                branches = self.branches(part, trial)
                if len(branches) == 1:
                    continue
                depth = 1 + max([self.depth_for(branch) for _, branch in branches])
                if part not in self.depths or depth < self.depths[part]:
                    self.depths[part] = depth
                    self.best[part] = trial

    def depth_for(self, part):
        """The least depth of a plan that settles a part."""
        return self.depths.get(part, 0)

    def plan_for(self, part):
        """The best plan for a part."""
        if part not in self.best:
            return ()
        trial = self.best[part]
        return trial, tuple([(sight, self.plan_for(branch)) for sight, branch in self.branches(part, trial)])

    def led_by(self, number):
        """The trials that the best plan does for the tables of the lot with this number."""
        trials = []
        part = self.whole
        while part in self.best:
            trials.append(self.best[part])
            sight = self.sights[number][trials[-1]]
            part = dict(self.branches(part, trials[-1]))[sight]
        return tuple(trials)

    def has_branches(self, part, plan):
        """Whether a plan has the branches that are told, for a part."""
        if plan == ():
            return True
        branches = self.branches(part, plan[0])
        if [sight for sight, _ in branches] != [sight for sight, _ in plan[1]]:
            return False
        return all([self.has_branches(branch[1], far[1]) for branch, far in zip(branches, plan[1])])

    def is_settled(self, part, plan):
        """Whether a plan that has its branches settles a part."""
        if plan == ():
            return len(part) < 2
        branches = self.branches(part, plan[0])
        return all([self.is_settled(branch[1], far[1]) for branch, far in zip(branches, plan[1])])

    def are_told_apart(self, trials):
        """Whether some trials together tell all lots apart."""
        return len(set([tuple([sights[trial] for trial in trials]) for sights in self.sights])) == len(self.lots)
