"""Whether the entries of a table or a floor are closed (7.9, 7.13), by the steps of each game."""

from heapq import heappop, heappush

from quietedition.doors import given_sets
from quietedition.joint import Joint
from quietedition.patterns import realise
from quietedition.saturation import TOP
from quietedition.turns import Turns

# Above any total in a table: there a run spends 1 for its move and 1 for each of its at most 200 calls back.
NO_LIMIT = 1000


class Closing:
    """The entries (base, reach, states) of one game, with the pairs (state, spent) of each.

    Levels and states are numbers for patterns, as in the saturation.
    """

    def __init__(self, joint, entries, limit):
        self.turns = Turns(joint)
        self.limit = limit
        self.reaches = {}
        self.spents = {}
        self.followed = {}
        for base, reach, states in entries:
            level = TOP if base is None else self.number(base)
            self.reaches[level] = reach
            self.spents[level] = {self.number(state): spent for state, spent in states}

    def number(self, entries):
        """The number of a pattern."""
        return self.turns.state(realise(entries, self.turns.joint.kept))

    def is_closed(self):
        """Whether the entries are closed below the limit."""
        if TOP not in self.reaches or not self.holds(TOP, 0, self.turns.loading()):
            return False
        return all([self.is_level_closed(level) for level in self.reaches])

    def is_level_closed(self, level):
        """Whether a level has its beginning, and nothing is missing that follows from its states."""
        if level != TOP and self.spents[level].get(level, 1) != 0:
            return False
        return all([self.is_state_closed(level, state, self.reaches[level] + spent)
                    for state, spent in self.spents[level].items()])

    def is_state_closed(self, level, state, total):
        """Whether nothing is missing that follows if the client has control with this state and total."""
        if total < self.limit and self.turns.is_seen(state):
            return False
        if total + 1 >= self.limit:
            return True
        return all([self.holds(level, total + 1, result) for _, result in self.turns.moves(state, level == TOP)])

    def holds(self, level, total, result):
        """Whether nothing is missing that follows from what a run of the level comes to with this total."""
        waiting = [(total, result)]
        while len(waiting) > 0:
            total, (kind, state, point) = heappop(waiting)
            if total < self.limit and kind != "back":
                if kind == "unlike" or not self.has(level, state, total):
                    return False
            if total + 1 < self.limit and kind == "back":
                if self.reaches.get(state, self.limit) > total + 1:
                    return False
                for home, spent in self.spents[state].items():
                    if self.is_new(level, point, home, total + 1 + spent):
                        heappush(waiting, (total + 1 + spent, self.turns.resume(point, home)))
        return True

    def has(self, level, state, total):
        """Whether the level has a state that is reached with this total."""
        return self.spents[level].get(state, self.limit) <= total - self.reaches[level]

    def is_new(self, level, point, home, total):
        """Whether a run that goes on there is yet to be followed with so low a total; notes that it is."""
        key = (level, point, home)
        if total >= self.followed.get(key, self.limit):
            return False
        self.followed[key] = total
        return True


def are_closed(elder, newer, moment, manners, entries, limit):
    """Whether entries (given set, base, reach, states) are closed below a limit, for each given set."""
    for given in given_sets(elder, newer, manners):
        own = [(base, reach, states) for names, base, reach, states in entries if names == given]
        if not Closing(Joint(elder, newer, moment, manners, given), own, limit).is_closed():
            return False
    return True
