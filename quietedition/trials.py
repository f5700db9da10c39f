"""Trials: a client in the two worlds of a question (8.2, 8.3)."""

from quietedition.judging import manners_of
from quietedition.machine import LIMIT
from quietedition.runs import run_of, unlike
from quietedition.world import Moment, worlds

# How many parts of an event of each kind count in its passing; other events are no passings.
PARTS = {"into": 2, "out": 3, "write": 3, "tell": 3, "end": 2}
MOVES = ("into", "out", "write")


def passings(events):
    """The passings in a list of events."""
    return [event[:PARTS[event[0]]] for event in events if event[0] in PARTS]


def count_moves(first, second):
    """The number of moves in the longest row of passings with which both begin."""
    count = 0
    for one, two in zip(first, second):
        if one != two:
            return count
        if one[0] in MOVES:
            count += 1
    return count


class Trial:
    """A client in the two worlds of an elder edition, a newer edition and a moment."""

    def __init__(self, client, elder, newer, moment, *, limit=LIMIT):
        before, behind = worlds(elder, newer, moment)
        self.client = client
        self.elder = elder
        self.newer = newer
        self.moment = moment
        self.limit = limit
        self.first, told = run_of(client, before, limit)
        self.second, others = run_of(client, behind, limit)
        self.place = unlike(self.first, self.second)
        self.manners = manners_of(client, elder, newer)
        self._served = self.first[0][0] != "refused"
        self._count = count_moves(passings(told), passings(others))

    @property
    def is_served(self):
        """Whether the elder edition serves the client."""
        return self._served

    @property
    def is_noticing(self):
        """Whether the client notices."""
        return self._served and self.place is not None

    def moves(self):
        """The number of the moves of the trial."""
        return self._count


def noticed_at(client, elder, newer):
    """The moments at which the client notices, a tuple in their order."""
    trials = [Trial(client, elder, newer, moment) for moment in Moment.ALL]
    return tuple([trial.moment for trial in trials if trial.is_noticing])
