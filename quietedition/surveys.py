"""Surveys: which sets of manners are noticed, and which are quiet (9.3 to 9.5, 9.7)."""

from quietedition.families import barring, complements, family
from quietedition.manners import Manners
from quietedition.verdicts import judge
from quietedition.writing import written


class Survey:
    """The least noticing sets and the greatest quiet sets among some manners."""

    def __init__(self, elder, newer, moment, among, noticed):
        """`noticed` has the verdicts of the least noticing sets, in any order."""
        self.elder = elder
        self.newer = newer
        self.moment = moment
        self.among = among
        self._costs = {made.manners.names: made.cost for made in noticed}
        self._least = family([made.manners for made in noticed])
        self._greatest = complements(barring(self._least, among), among)

    @property
    def least_noticing(self):
        """The least noticing sets."""
        return list(self._least)

    @property
    def greatest_quiet(self):
        """The greatest quiet sets."""
        return list(self._greatest)

    def quiet(self, manners):
        """Whether those manners of the set that `among` has are quiet."""
        part = manners & self.among
        return not any([one.is_part_of(part) for one in self._least])

    def verdict(self, manners):
        """The verdict of those manners of the set that `among` has; raises TooMany."""
        return judge(self.elder, self.newer, self.moment, manners & self.among)

    def client(self, manners):
        """The client that is written for that verdict, or None."""
        return written(self.verdict(manners))

    def clients(self):
        """The clients of the least noticing sets, in their order."""
        return [self.client(manners) for manners in self._least]

    def holds_for(self, other):
        """Whether every set that is quiet here is quiet in the other survey."""
        return all([other.quiet(manners) for manners in self._greatest])

    def lines(self):
        """The least noticing sets with their costs, and the greatest quiet sets, in columns."""
        noticed = [f"noticed {self._costs[manners.names]:>3}  {manners!s}" for manners in self._least]
        return noticed + ["quiet".ljust(13) + str(manners) for manners in self._greatest]


def least_below(verdict):
    """The verdict of a least noticing set that is a part of the set of this one; raises TooMany."""
    names = verdict.manners.names
    for name in names:
        fewer = judge(verdict.elder, verdict.newer, verdict.moment, verdict.manners - Manners.of(name))
        if not fewer.is_quiet:
            verdict = fewer
    return verdict


def survey(elder, newer, moment, *, among=None):
    """The survey of two editions at a moment; raises BadMoment and TooMany."""
    whole = Manners(Manners.ALL) if among is None else among
    noticed = []
    quiet = []
    waiting = [whole]
    while len(waiting) > 0:
        made = judge(elder, newer, moment, waiting[0])
        if made.is_quiet:
            quiet.append(made.manners)
        else:
            noticed.append(least_below(made))
        # The greatest sets that have no known noticing set as a part: either they are all quiet, or one has another.
        greatest = complements(barring([found.manners for found in noticed], whole), whole)
        waiting = [manners for manners in greatest if manners not in quiet]
    return Survey(elder, newer, moment, whole, noticed)
