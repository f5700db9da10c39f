"""The client that is written for a verdict (8.4)."""

from quietedition.doors import doors, open_cells
from quietedition.rows import Call, End, Put, Same, Tell, There
from quietedition.units import Block, Client, Unit

UNIT = "told"
TURN = ("own", "turn")
ZERO = ("number", 0)

# What the client tells behind each call and look; called back, it tells the index of the given name, which is less.
MARK = ("number", 9)


def client_of(shared, start):
    """The client with these shared blocks, a dict from names to rows, and this start."""
    blocks = [Block("shared", name, rows) for name, rows in shared.items()]
    return Client([Unit(UNIT, False, {TURN[1]: 0}, blocks + [Block("start", "", start)])])


class Script:
    """The rows of a client that does the moves of a clue.

    The client counts its calls back in its own cell: `turns` has, for each given name, the rows of each call back
    under that name, by the number of calls back ahead of it.
    """

    def __init__(self, given):
        self.turns = {name: {} for name in given}
        self.next_turn = 0

    def rows_for(self, moves):
        """The rows that do some moves; notes what is to be done in their homes."""
        rows = []
        for move in moves:
            if move[0] in ("load", "call"):
                self.note_homes(move[-1])
            rows.extend(rows_of_move(move))
        return rows

    def note_homes(self, homes):
        """Notes what is to be done in the homes of a move."""
        for name, moves in homes:
            turn = self.next_turn
            self.next_turn += 1
            # The turn takes its place here, ahead of those that come in the moves of this home.
            self.turns[name][turn] = []
            self.turns[name][turn] = self.rows_for(moves)

    def block(self, code, name):
        """The rows of the shared block of a given name."""
        rows = [Tell(("number", code)), Tell(("argument",))]
        for turn, inner in self.turns[name].items():
            rows.append(Same(TURN, ("number", turn), len(inner) + 2))
            rows.append(Put(TURN, ("number", turn + 1)))
            rows.extend(inner)
            rows.append(End())
        return rows + [End()]

    def shared(self):
        """The rows of all shared blocks, by their names."""
        return {name: self.block(code, name) for code, name in enumerate(self.turns)}


def rows_of_move(move):
    """The rows that do a move, without its homes."""
    kind = move[0]
    if kind == "call":
        # The mark tells a run that comes home from one that goes on, whatever it would tell.
        return [Call(move[1], move[3], move[2]), Tell(MARK)]
    if kind == "write":
        return [Put(("place", move[1], move[2]), move[3])]
    if kind == "look":
        return [Tell(("place", move[1], move[2]))]
    if kind == "ask":
        return [There(move[1], 1), Tell(ZERO), Tell(MARK)]
    return [Tell(("named", move[1]))] if kind == "show" else []


def written_game(given, moves):
    """The client that gives these names and does these moves."""
    script = Script(given)
    start = script.rows_for(moves)
    return client_of(script.shared(), start + [End()])


def named_row(verdict, name):
    """A row with the number of that name which asks for no manner that the verdict does not allow."""
    value = ("named", name)
    found = doors(verdict.elder, verdict.newer, verdict.moment, verdict.manners, verdict.elder.wants)
    if len(found) > 0:
        return Call(found[0].name, value, found[0].tag)
    if "shows" in verdict.manners:
        return Tell(value)
    return Put(("place", open_cells(verdict.elder)[0], 0), value)


def row_at_once(verdict):
    """A row for which the second world refuses the client."""
    kind, name = verdict.clue[:2]
    if kind == "door":
        return Call(name, ZERO, verdict.clue[2])
    if kind == "number":
        return named_row(verdict, name)
    return Tell(("place", name, verdict.clue[2])) if kind == "cell" else End()


def written(verdict):
    """The client for a verdict, None if it is quiet."""
    if verdict.is_quiet:
        return None
    if verdict.clue[0] == "game":
        return written_game(verdict.clue[1], verdict.clue[2])
    return client_of({name: [End()] for name in verdict.elder.wants}, [row_at_once(verdict), End()])
