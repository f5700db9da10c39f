"""Cores: an edition's own side of a run, from event to event (5.1 to 5.3)."""

from quietedition.lists import ascending
from quietedition.ordering import first_order
from quietedition.rows import End, Put, Same, Tell
from quietedition.scope import Scope, head_of


def worth(operand, values, argument):
    """The integer of an operand: its own one, that of a place, or the argument."""
    kind, number = operand
    if kind == "number":
        return number
    return values[number] if kind == "place" else argument


class Core:
    """An edition beside a client that gives some names; it holds no state of a run."""

    def __init__(self, edition, given):
        self.edition = edition
        self.given = tuple(ascending(given))
        self.places = tuple(edition.places())
        self.first_values = tuple(edition.first_values())
        self.firsts = tuple(first_order(edition))
        self.scope = Scope(edition, given)
        self.coded = {head_of(block): [self.step(row) for row in block.rows] for block in edition.blocks}

    def operand(self, value):
        """A value with its integer, or with the index of its place among all places."""
        if value[0] == "place":
            return ("place", self.places.index((value[1], value[2])))
        if value[0] == "named":
            return ("number", self.edition.numbers[value[1]])
        return value if value[0] == "number" else ("argument", 0)

    def step(self, row):
        """A row as (word, operand, what it acts on, number of rows that it may skip)."""
        if isinstance(row, End):
            return ("end", ("number", 0), None, 0)
        if isinstance(row, Tell):
            return ("tell", self.operand(row.value), None, 0)
        if isinstance(row, Put):
            return ("set", self.operand(row.value), self.operand(row.place)[1], 0)
        if isinstance(row, Same):
            return ("same", self.operand(row.left), self.operand(row.right), row.skip)
        return self.call_step(row)

    def call_step(self, row):
        """A call row as a step: back to the client, or into a member."""
        target = self.scope.reach(row.name, row.tag)
        if target[0] == "client":
            return ("back", self.operand(row.value), row.name, 0)
        return ("into", self.operand(row.value), ("routine", target[1], target[2]), 0)

    def enter(self, name, tag, n):
        """The frames with which the member of this name and real tag begins."""
        return ((("routine", name, tag), 0, n),)

    def open_first(self, name):
        """The frames with which a first block begins."""
        return ((("first", name), 0, None),)

    def load(self):
        """The frames with which all first blocks begin together; the one that runs first is on top."""
        return tuple([(("first", name), 0, None) for name in self.firsts[::-1]])

    def go(self, values, frames):
        """The next event, with the values and the frames behind it."""
        event, values, frames, _ = self.walk(values, frames)
        return (event, values, frames)

    def count(self, values, frames):
        """The number of rows that `go` runs."""
        return self.walk(values, frames)[3]

    def walk(self, values, frames):
        """The next event, the values and the frames behind it, and the number of rows that run."""
        values = list(values)
        frames = list(frames)
        many = 0
        while len(frames) > 0:
            block, at, argument = frames.pop()
            rows = self.coded[block]
            if at >= len(rows):
                continue
            many += 1
            word, operand, act, skip = rows[at]
            if word == "end":
                continue
            number = worth(operand, values, argument)
            if word == "set":
                values[act] = number
            elif word == "same":
                if number != worth(act, values, argument):
                    at += skip
            elif word != "tell":
                argument = None
            frames.append((block, at + 1, argument))
            if word == "into":
                frames.append((act, 0, number))
            elif word == "tell":
                return (("tell", number), tuple(values), tuple(frames), many)
            elif word == "back":
                return (("back", act, number), tuple(values), tuple(frames), many)
        return (("home",), tuple(values), (), many)
