"""What the moves of a joint game come to, by patterns alone, each found out once (7.8)."""

from quietedition.patterns import pattern, realise


class Turns:
    """The steps of a game between states, which are numbers for patterns of joint values.

    A run that waits for a call back is at a point, a number for its frames. What a run comes to is a
    triple: "home", "back" or "unlike", the state behind it, and the point if it waits, otherwise -1.
    """

    def __init__(self, joint):
        self.joint = joint
        self.patterns = []
        self.integers = []
        self.states = {}
        self.frames = []
        self.points = {}
        self.moved = {}
        self.resumed = {}

    def state(self, values):
        """The state of some joint values."""
        entries = pattern(values, self.joint.kept)
        if entries not in self.states:
            self.states[entries] = len(self.patterns)
            self.patterns.append(entries)
            self.integers.append(realise(entries, self.joint.kept))
        return self.states[entries]

    def point(self, frames, others):
        """The point of the frames of both editions."""
        pair = (frames, others)
        if pair not in self.points:
            self.points[pair] = len(self.frames)
            self.frames.append(pair)
        return self.points[pair]

    def run(self, values, frames, others):
        """What a run comes to."""
        event, values, frames, others = self.joint.go(values, frames, others)
        return (event[0], self.state(values), self.point(frames, others) if event[0] == "back" else -1)

    def loading(self):
        """What the loading comes to."""
        values, frames, others = self.joint.load()
        return self.run(values, frames, others)

    def moves(self, state, is_top):
        """The pairs (index of the move, what it comes to) of a state, without moves that begin like earlier ones."""
        key = (state, is_top)
        if key not in self.moved:
            begun = {}
            for index, move in enumerate(self.joint.moves(self.integers[state], is_top)):
                begun.setdefault(self.joint.begin(self.integers[state], move), index)
            self.moved[key] = [(index, self.run(values, frames, others))
                               for (values, frames, others), index in begun.items()]
        return self.moved[key]

    def resume(self, point, state):
        """What a run that waits at a point comes to if the client comes home with a state."""
        key = (point, state)
        if key not in self.resumed:
            frames, others = self.frames[point]
            self.resumed[key] = self.run(self.integers[state], frames, others)
        return self.resumed[key]

    def is_seen(self, state):
        """Whether a look at a state notices."""
        return self.joint.look(self.integers[state]) is not None
