"""The machine: an image runs, event by event (5.4 to 5.7)."""

from quietedition.core import Core
from quietedition.rows import End, Put, Same, Tell, There

LIMIT = 3000


class Activation:
    """A block of a client's unit on its way: the index of its next row, and its argument."""

    def __init__(self, unit, rows, argument):
        self.unit = unit
        self.rows = rows
        self.at = 0
        self.argument = argument


class Run:
    """One run of an image. The stack has activations of the client, and the frames of each entry of the edition."""

    def __init__(self, image, limit):
        self.image = image
        self.left = limit
        self.core = Core(image.edition, list(image.linked.given))
        self.objects = {made.name: made for made in image.linked.objects}
        self.own = {made.name: dict(made.cells) for made in image.linked.objects}
        self.spots = {place: at for at, place in enumerate(self.core.places)}
        self.integers = self.core.first_values
        self.waiting = list(image.firsts[::-1])
        self.stack = []
        self.has_started = False
        self.is_over = False

    def go_on(self):
        """Goes on by one row of the client, or to the next event of the edition; the events of that, a list."""
        if len(self.stack) == 0:
            return self.begin()
        top = self.stack[-1]
        if isinstance(top, tuple):
            return self.inside()
        if top.at >= len(top.rows):
            self.stack.pop()
            is_called_back = len(self.stack) > 0 and isinstance(self.stack[-1], tuple)
            return [("done",)] if is_called_back else []
        if self.left == 0:
            return self.end("long")
        self.left -= 1
        top.at += 1
        return self.run(top, top.rows[top.at - 1])

    def begin(self):
        """Begins the next first block or, behind them, the start; ends the run behind the start."""
        if len(self.waiting) > 0:
            name = self.waiting.pop()
            self.stack.append(self.core.open_first(name))
            return [("first", name)]
        if self.has_started:
            return self.end("plain")
        self.has_started = True
        unit = self.image.linked.start
        self.stack.append(Activation(unit, self.objects[unit].start_block().rows, None))
        return []

    def end(self, how):
        """Ends the run."""
        self.is_over = True
        return [("end", how)]

    def inside(self):
        """Goes on in the edition to its next event."""
        event, self.integers, frames = self.core.go(self.integers, self.stack.pop())
        if event[0] == "home":
            return [event]
        self.stack.append(frames)
        if event[0] == "tell":
            return [("tell", "edition", event[1])]
        _, name, number = event
        self.activate(self.image.linked.given[name], name, number)
        return [("out", name, number)]

    def activate(self, unit, name, number):
        """Begins a shared or inner block of a unit."""
        self.stack.append(Activation(unit, self.objects[unit].block(name).rows, number))

    def take(self, top, value, told):
        """The integer of a value of a client's row; adds the event of its reading."""
        kind = value[0]
        if kind == "number":
            return value[1]
        if kind == "argument":
            return top.argument
        if kind == "own":
            return self.own[top.unit][value[1]]
        told.append(("read", value[1], value[2]))
        return self.integers[self.spots[(value[1], value[2])]]

    def put(self, top, place, number, told):
        """Gives a place or an own cell an integer; adds the event of writing a place."""
        if place[0] == "own":
            self.own[top.unit][place[1]] = number
            return
        spot = self.spots[(place[1], place[2])]
        self.integers = self.integers[:spot] + (number,) + self.integers[spot + 1:]
        told.append(("write", place[1], place[2], number))

    def run(self, top, row):
        """Runs a row of the client; its events."""
        told = []
        if isinstance(row, End):
            top.at = len(top.rows)
        elif isinstance(row, There):
            if not self.image.there(row.name):
                top.at += row.skip
        elif isinstance(row, Same):
            left = self.take(top, row.left, told)
            right = self.take(top, row.right, told)
            if left != right:
                top.at += row.skip
        elif isinstance(row, Tell):
            told.append(("tell", "client", self.take(top, row.value, told)))
        elif isinstance(row, Put):
            self.put(top, row.place, self.take(top, row.value, told), told)
        else:
            self.call(top, row, self.take(top, row.value, told), told)
        return told

    def call(self, top, row, number, told):
        """Calls where the image says; ends the run if the call is lost."""
        target = self.image.reach(top.unit, row.name, row.tag)
        if target is None:
            told.extend(self.end(f"lost {row.name}"))
        elif target[0] == "client":
            self.activate(target[1], target[2], number)
        else:
            _, name, tag = target
            told.append(("into", name, tag, number))
            self.stack.append(self.core.enter(name, tag, number))


class Machine:
    """What runs an image, with a limit for the rows of the client."""

    def __init__(self, image, *, limit=LIMIT):
        self.image = image
        self.limit = limit

    def events(self):
        """Yields the events of a new run."""
        run = Run(self.image, self.limit)
        while not run.is_over:
            for event in run.go_on():
                yield event
