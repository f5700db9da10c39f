"""All clients of few moves, as texts, and what their runs in two worlds come to: straight from parts 5, 7 and 8."""

from quietedition.machine import LIMIT, Machine
from quietedition.runs import image_of, is_served, outcome
from quietedition.units import Client
from quietedition.world import worlds
from tests.oracle import manners_by_words


def passings_by_words(told):
    """The passings of a run (8.3)."""
    return [event[:2] if event[0] == "into" else event[:3] if event[0] == "write" else event
            for event in told if event[0] in ("into", "out", "write", "tell", "end")]


def told_by(client, world, limit=LIMIT):
    """The events of a client that no stage refuses."""
    machine = Machine(image_of(client, world), limit=limit)
    return list(machine.events())


def moves_by_words(client, elder, newer, moment, limit=LIMIT):
    """The moves of a trial (8.3)."""
    pair = worlds(elder, newer, moment)
    if any(outcome(client, world, limit=limit)[0][0] == "refused" for world in pair):
        return 0
    count = 0
    for one, two in zip(*[passings_by_words(told_by(client, world, limit)) for world in pair]):
        if one != two:
            break
        count += one[0] in ("into", "out", "write")
    return count


def text_of(given, turns):
    """The text of a client that gives some names and has these rows for each turn: at the start, and called back."""
    lines = ["unit u", "cell turn 0"]
    for code, name in enumerate(given):
        lines.extend([f"routine {name}", f"tell {code}", "tell it"])
        for turn in range(1, max(turns) + 2):
            rows = turns.get(turn, [])
            lines.extend([f"same $turn {turn - 1} else {len(rows) + 2}", f"set $turn {turn}"] + rows + ["end"])
        lines.append("end")
    return "\n".join(lines + ["start"] + turns[0] + ["end"])


class Search:
    """The least moves of the noticing clients of a question that do some few moves and perhaps a look."""

    def __init__(self, elder, newer, moment, manners, integers):
        self.question = (elder, newer, moment)
        self.manners = manners
        values = [str(n) for n in integers] + ["#" + name for name in elder.numbers]
        doors = [(name, f" at {tag}" if tag else "") for name in elder.offers() for tag in range(10)
                 if elder.visible(name, tag) is not None]
        places = [f"{cell}.{index}" for cell, index in elder.places() if elder.cells[cell][0] == "open"]
        names = sorted({member.name for member in elder.members + newer.members})
        self.moves = [[f"call {name} {value}{tag}", "tell 99"] for name, tag in doors for value in values]
        self.moves += [[f"set {place} {value}"] for place in places for value in values]
        self.looks = [[f"tell {place}"] for place in places] + [[f"tell #{name}"] for name in elder.numbers]
        self.looks += [[f"there {name} else 1", "tell 1", "tell 2"] for name in names]
        self.least = None
        self.most = 0
        self.count = 0

    def attempt(self, given, turns):
        """Runs a client; the number of times that it is called back, or None if it is to be given up."""
        elder, newer, moment = self.question
        client = Client.of(text_of(given, turns))
        allowed = manners_by_words(client, elder, newer).is_part_of(self.manners)
        if not allowed or not is_served(client, elder):
            return None
        self.count += 1
        first, second = worlds(elder, newer, moment)
        if outcome(client, first) != outcome(client, second):
            moves = moves_by_words(client, elder, newer, moment)
            self.least = moves if self.least is None else min(moves, self.least)
        # One that notices may do so earlier with a move more.
        return len([event for event in told_by(client, first) if event[0] == "out"])

    def extend(self, given, turns, most):
        """Runs a client, and the clients that do a look or up to so many moves more."""
        backs = self.attempt(given, turns)
        if backs is None:
            return
        # Behind more calls back than that, a client has more moves than are asked for.
        for turn in range(min(backs, self.most) + 1):
            own = turns.get(turn, [])
            for look in self.looks:
                self.attempt(given, {**turns, turn: own + look})
            for move in self.moves if most > 0 else []:
                self.extend(given, {**turns, turn: own + move}, most - 1)

    def go(self, most):
        """The least moves of a client that notices, or None; all clients are tried that have at most so many moves."""
        self.most = most
        elder, newer, _ = self.question
        others = sorted(set(elder.entries() + newer.entries()) - set(elder.wants))
        for chosen in range(2 ** len(others)):
            given = list(elder.wants) + [name for at, name in enumerate(others) if chosen >> at & 1]
            self.extend(given, {0: []}, most)
            # What a stage refuses is noticed whether or not a run comes to it.
            for rows in self.moves + self.looks:
                self.attempt(given, {0: ["end"] + rows})
        return self.least
