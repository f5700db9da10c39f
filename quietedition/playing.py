"""The moves of a clue, played with the integers that they have (7.11)."""

from quietedition.renaming import is_short


def is_integer(thing):
    """Whether the thing is an integer; True and False are none."""
    return isinstance(thing, int) and not isinstance(thing, bool)


def is_row(thing, size):
    """Whether the thing is a tuple of so many parts."""
    return isinstance(thing, tuple) and len(thing) == size


class Play:
    """The game of a given set, as far as some moves of any kind are played.

    `open_levels` has the moves of each level that is not through, and how many of them are begun: those of the top
    level first, then those of the home in which the client is. `runs` has for each such home the run that waits:
    all homes of its move, how many of them have come, and the frames of both editions.
    """

    def __init__(self, joint, moves):
        self.joint = joint
        self.integers = joint.first_values
        self.open_levels = [(moves, 0)]
        self.runs = []
        self.is_noticed = False

    def is_right(self):
        """Whether all moves can be played, and the notice comes in the very last one."""
        while len(self.open_levels) > 0:
            if not self.step():
                return False
        return self.is_noticed

    def step(self):
        """Plays the next move of the innermost level, or comes home from it; whether that can be."""
        moves, at = self.open_levels.pop()
        if at < len(moves):
            self.open_levels.append((moves, at + 1))
            return not self.is_noticed and self.play(moves[at], at == 0 and len(self.open_levels) == 1)
        if len(self.runs) == 0:
            return True
        homes, come, frames, others = self.runs.pop()
        if self.is_noticed:
            return come == len(homes)
        return self.go_on(homes, come, frames, others)

    def go_on(self, homes, come, frames, others):
        """Goes on with a run of which so many homes have come; whether that can be."""
        event, self.integers, frames, others = self.joint.go(self.integers, frames, others)
        if event[0] != "back":
            self.is_noticed = event[0] == "unlike"
            return come == len(homes)
        if come == len(homes) or not is_row(homes[come], 2):
            return False
        name, moves = homes[come]
        self.runs.append((homes, come + 1, frames, others))
        self.open_levels.append((moves, 0))
        return name == event[1] and isinstance(moves, tuple)

    def play(self, move, is_first):
        """Plays one move as far as it goes without the client; whether that can be."""
        if not isinstance(move, tuple) or len(move) == 0:
            return False
        if is_first:
            return is_row(move, 2) and move[0] == "load" and self.begin(self.joint.load(), move[1])
        if move[0] == "call":
            return self.is_call(move) and self.begin(self.joint.begin(self.integers, move[:4]), move[4])
        if move[0] == "write":
            return self.is_write(move) and self.begin(self.joint.begin(self.integers, move), ())
        self.is_noticed = True
        return self.is_look(move)

    def begin(self, begun, homes):
        """Begins a run with these homes; whether that can be."""
        self.integers, frames, others = begun
        return isinstance(homes, tuple) and self.go_on(homes, 0, frames, others)

    def is_call(self, move):
        """Whether the move is a call that the client may do where it is."""
        if not is_row(move, 5) or not is_integer(move[2]) or not self.is_value(move[3]):
            return False
        has_door = any([door.name == move[1] and door.tag == move[2] for door in self.joint.doors])
        return has_door and (len(self.open_levels) == 1 or self.joint.is_within)

    def is_write(self, move):
        """Whether the move is a write that the client may do."""
        if not is_row(move, 4) or not is_integer(move[2]) or not self.is_value(move[3]):
            return False
        return move[1:3] in list(self.joint.spots)

    def is_value(self, thing):
        """Whether the thing is a value that a client may pass."""
        if not is_row(thing, 2):
            return False
        if thing[0] == "named":
            return thing[1] in list(self.joint.pairs)
        return thing[0] == "number" and is_short(thing[1])

    def is_look(self, move):
        """Whether the move is a look of the state in which it stands."""
        return move in self.joint.looks(self.integers) and not any([isinstance(part, bool) for part in move])
