"""All that can be reached in one game, with the least costs (7.9, 7.12, 7.13).

A level is the top level, told as -1, or what happens in a call back, told as the state at which it
begins. What is reached in a level is told as a place (level, state, point): the client has control
if the point is -1, otherwise a run waits there for a call back. The cost of a place counts from the
beginning of its level, so it is the same for all runs that call back with one state.
"""

from heapq import heappop, heappush

from quietedition.turns import Turns

TOP = -1
NO_POINT = -1
MOST_COST = 60

# What stands for the loading and for a look where otherwise the index of a move stands.
LOADING = -1
LOOK = -2


class Saturation:
    """All that can be reached in one game."""

    def __init__(self, joint):
        self.joint = joint
        self.turns = Turns(joint)
        self.costs = {}
        self.origins = {}
        self.controls = {TOP: []}
        self.waits = {}
        self.notices = {}
        self.queue = []
        self.found = []
        self.saturate()
        self.reaches = {}
        self.callers = {}
        self.reach_levels()
        self.cost = None
        self.moves = None
        self.tell_notice()

    def push(self, level, cost, result, origin):
        """Notes what a run of a level comes to.

        The origin is (place, number): the place from which it went on, and the index of the move or, if a run
        waited there, the state with which the client came home. It is None at the beginning of a call back.
        """
        kind, state, point = result
        if kind == "unlike":
            self.notice(level, cost, origin)
            return
        place = (level, state, point)
        if place not in self.costs:
            self.found.append((place, origin))
            heappush(self.queue, (cost if kind == "home" else cost + 1, len(self.found) - 1))

    def notice(self, level, cost, origin):
        """Notes a notice in a level, if none costs less."""
        if level not in self.notices or cost < self.notices[level][0]:
            self.notices[level] = (cost, origin)

    def saturate(self):
        """Finds the least cost of each place, in ascending order of costs."""
        self.push(TOP, 0, self.turns.loading(), (None, LOADING))
        while len(self.queue) > 0:
            cost, number = heappop(self.queue)
            place, origin = self.found[number]
            if place in self.costs:
                continue
            self.costs[place] = cost
            self.origins[place] = origin
            if place[2] == NO_POINT:
                self.control(place, cost)
            else:
                self.wait(place)

    def control(self, place, cost):
        """Goes on from a place where the client has control."""
        level, state, _ = place
        if self.turns.is_seen(state):
            # Whatever the client does from here on costs no less than to look.
            self.notice(level, cost, (place, LOOK))
            return
        self.controls[level].append(place)
        for index, result in self.turns.moves(state, level == TOP):
            self.push(level, cost + 1, result, (place, index))
        for caller in self.waits.get(level, []):
            self.resume(caller, place)

    def wait(self, place):
        """Goes on from a place where a run waits for a call back."""
        base = place[1]
        self.waits.setdefault(base, []).append(place)
        if base not in self.controls:
            self.controls[base] = []
            self.push(base, 0, ("home", base, NO_POINT), None)
        for home in self.controls[base]:
            self.resume(place, home)

    def resume(self, caller, home):
        """Goes on with a run that waits, from the place where the client comes home."""
        cost = self.costs[caller] + self.costs[home]
        self.push(caller[0], cost, self.turns.resume(caller[2], home[1]), (caller, home[1]))

    def reach_levels(self):
        """Finds what a client has spent at least when it gets control in each level."""
        waiting = {}
        for caller in self.costs:
            if caller[2] != NO_POINT:
                waiting.setdefault(caller[0], []).append(caller)
        queue = [(0, TOP)]
        self.reaches[TOP] = 0
        while len(queue) > 0:
            reach, level = heappop(queue)
            if reach > self.reaches[level]:
                continue
            for caller in waiting.get(level, []):
                total = reach + self.costs[caller]
                base = caller[1]
                if base not in self.reaches or total < self.reaches[base]:
                    self.reaches[base] = total
                    self.callers[base] = caller
                    heappush(queue, (total, base))

    def tell_notice(self):
        """Finds the least cost of a notice and, if it is not too great, the moves that lead there."""
        totals = [(self.reaches[level] + cost, level) for level, (cost, _) in self.notices.items()]
        if len(totals) == 0:
            return
        self.cost, level = min(totals)
        if self.cost <= MOST_COST:
            self.moves, _ = self.played(self.joint.first_values, self.whole_path(level), True)

    def path(self, origin):
        """The path in its level to what has this origin.

        A path is a list of pairs (index of a move, homes), homes being the paths of the client in the call backs.
        """
        if origin is None:
            return []
        place, number = origin
        if place is None:
            return [(number, [])]
        earlier = self.path(self.origins[place])
        if place[2] == NO_POINT:
            return earlier + [(number, [])]
        earlier[-1][1].append(self.path(self.origins[(place[1], number, NO_POINT)]))
        return earlier

    def whole_path(self, level):
        """The path from the beginning of the game to the notice of a level."""
        path = self.path(self.notices[level][1])
        while level != TOP:
            caller = self.callers[level]
            outer = self.path(self.origins[caller])
            outer[-1][1].append(path)
            path = outer
            level = caller[0]
        return path

    def played(self, values, path, is_top):
        """The moves of a path with their integers from these joint values on, and the values behind the path."""
        moves = []
        for index, paths in path:
            if index == LOOK:
                moves.append(self.joint.look(values))
                continue
            move = ("load",) if index == LOADING else self.joint.moves(values, is_top)[index]
            begun = self.joint.load() if index == LOADING else self.joint.begin(values, move)
            homes, values = self.played_homes(begun, paths)
            moves.append(move if move[0] == "write" else move + (homes,))
        return (tuple(moves), values)

    def played_homes(self, begun, paths):
        """The homes of a move, with the integers that they have, and the joint values behind the move."""
        values, frames, others = begun
        event, values, frames, others = self.joint.go(values, frames, others)
        homes = []
        for path in paths:
            moves, values = self.played(values, path, False)
            homes.append((event[1], moves))
            # Behind a notice in the last home this goes on as well, but then nothing asks for the values.
            event, values, frames, others = self.joint.go(values, frames, others)
        return (tuple(homes), values)

    def levels(self):
        """The pairs (base, level), None first, then the bases ascending."""
        bases = sorted([(self.turns.patterns[level], level) for level in self.controls if level != TOP])
        return [(None, TOP)] + bases

    def entries(self):
        """The entries (base, states) of the least table of a game in which nobody notices, otherwise none."""
        if self.cost is not None:
            return []
        return [(base, tuple(sorted([self.turns.patterns[place[1]] for place in self.controls[level]])))
                for base, level in self.levels()]

    def floor(self, limit):
        """Entries (base, reach, states) which show that no clue costs less than the limit."""
        spent = {level: [] for level in self.controls}
        for place, cost in self.costs.items():
            level, state, point = place
            is_asked = self.reaches[level] + cost < limit or level == state
            if point == NO_POINT and is_asked:
                spent[level].append((self.turns.patterns[state], cost))
        return [(base, self.reaches[level], tuple(sorted(spent[level]))) for base, level in self.levels()]
