"""Houses: rows of editions, from the eldest to the newest (10.1, 10.2, 10.6, 10.10)."""

from quietedition.editions import Edition
from quietedition.errors import BadHouse
from quietedition.verdicts import judge
from quietedition.world import check_moment
from quietedition.writing import written

MOST_EDITIONS = 4


def check_editions(editions):
    """Raises BadHouse if these are no editions of a house."""
    if len(editions) > MOST_EDITIONS:
        raise BadHouse(MOST_EDITIONS)
    names = {}
    for at, edition in enumerate(editions):
        if not isinstance(edition, Edition) or edition.name in names:
            raise BadHouse(at)
        names[edition.name] = True
    if len(editions) == 0:
        raise BadHouse(0)


class House:
    """Up to four editions with unlike names."""

    def __init__(self, editions):
        check_editions(editions)
        self.editions = tuple(editions)

    def __len__(self):
        return len(self.editions)

    def __getitem__(self, at):
        return self.editions[at]

    def __iter__(self):
        return iter(self.editions)

    def verdict(self, i, j, moment, manners):
        """The verdict of two of the editions; raises BadHouse, BadMoment and TooMany."""
        count = len(self.editions)
        if i < 0 or i >= count:
            raise BadHouse(i)
        if j <= i or j >= count:
            raise BadHouse(j)
        return judge(self.editions[i], self.editions[j], moment, manners)

    def verdicts(self, moment, manners):
        """The verdicts of all pairs, ascending; raises BadMoment and TooMany."""
        check_moment(moment)
        count = len(self.editions)
        return {(i, j): judge(self.editions[i], self.editions[j], moment, manners)
                for i in range(count) for j in range(i + 1, count)}

    def matrix(self, moment, manners):
        """Whether each pair is quiet; raises BadMoment and TooMany."""
        return {pair: verdict.is_quiet for pair, verdict in self.verdicts(moment, manners).items()}

    def clients(self, moment, manners):
        """The clients of the pairs that are not quiet; raises BadMoment and TooMany."""
        return {pair: written(verdict) for pair, verdict in self.verdicts(moment, manners).items()
                if not verdict.is_quiet}

    def eldest(self, moment, manners):
        """The eldest edition that each edition still serves quietly; raises BadMoment and TooMany."""
        quiet = self.matrix(moment, manners)
        found = []
        for j in range(len(self.editions)):
            i = j
            while i > 0 and quiet[(i - 1, j)]:
                i -= 1
            found.append(i)
        return found
