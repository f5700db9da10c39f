"""The joint game: both editions side by side for one given set (7.7, 7.8)."""

from quietedition.core import Core
from quietedition.doors import doors, kept_numbers, unlike_numbers
from quietedition.linking import size_of
from quietedition.patterns import choices
from quietedition.world import Moment


class Joint:
    """The game of one given set, for a question at which nobody notices at once."""

    def __init__(self, elder, newer, moment, manners, given):
        self.kept = kept_numbers(elder, newer, moment)
        self.first = Core(elder, given)
        self.second = Core(newer, given)
        self.first_values = self.first.first_values + self.second.first_values
        self.is_within = "within" in manners
        self.doors = doors(elder, newer, moment, manners, given)
        self.spots = {}
        if "straight" in manners:
            for cell, index in self.first.places:
                if size_of(elder, cell) is not None:
                    self.spots[(cell, index)] = self.spots_of(cell, index)
        names = unlike_numbers(elder, newer) if moment == Moment.ASSEMBLED else []
        self.pairs = {name: (elder.numbers[name], newer.numbers[name]) for name in names}
        self.late_looks = [("ask", name) for name in asked(elder, newer, given) if "asks" in manners]
        self.late_looks.extend([("show", name) for name in names if "shows" in manners])

    def spots_of(self, cell, index):
        """The indexes of a place among the joint values, for both editions."""
        place = (cell, index)
        return (self.first.places.index(place), len(self.first.places) + self.second.places.index(place))

    def load(self):
        """The joint values and the frames of both editions at the beginning of the loading."""
        return (self.first_values, self.first.load(), self.second.load())

    def moves(self, values, is_top):
        """The moves, but for looks, of a client that has control with these joint values."""
        passed = [("number", n) for n in choices(values, self.kept)] + [("named", name) for name in self.pairs]
        moves = []
        if is_top or self.is_within:
            moves.extend([("call", door.name, door.tag, value) for door in self.doors for value in passed])
        moves.extend([("write", cell, index, value) for cell, index in self.spots for value in passed])
        return moves

    def begin(self, values, move):
        """The joint values and the frames of both editions at the beginning of a move."""
        kind, name, number, value = move
        first, second = self.pairs[value[1]] if value[0] == "named" else (value[1], value[1])
        if kind == "write":
            written = list(values)
            one, two = self.spots[(name, number)]
            written[one] = first
            written[two] = second
            return (tuple(written), (), ())
        door = self.door(name, number)
        return (tuple(values), self.first.enter(name, door.first, first), self.second.enter(name, door.second, second))

    def door(self, name, tag):
        """The door of a name and a written tag."""
        return [door for door in self.doors if door.name == name and door.tag == tag][0]

    def go(self, values, frames, others):
        """The next event but for equal tells, with the joint values and the frames of both editions."""
        size = len(self.first.places)
        one = values[:size]
        two = values[size:]
        while True:
            event, one, frames = self.first.go(one, frames)
            other, two, others = self.second.go(two, others)
            if event != other:
                return (("unlike", event, other), one + two, frames, others)
            if event[0] != "tell":
                return (event, one + two, frames, others)

    def looks(self, values):
        """The looks of a client that has control with these joint values, in their order."""
        spots = [place for place, (one, two) in self.spots.items() if values[one] != values[two]]
        return [("look", cell, index) for cell, index in spots] + self.late_looks

    def look(self, values):
        """The first look of a client that has control with these joint values, or None."""
        looks = self.looks(values)
        return looks[0] if len(looks) > 0 else None


def asked(elder, newer, given):
    """The names that exactly one of the editions offers and that are not given, ascending."""
    first = elder.offers()
    second = newer.offers()
    names = [name for name in first if name not in second] + [name for name in second if name not in first]
    return sorted([name for name in names if name not in given])
