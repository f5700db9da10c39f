"""Part 7 once more, slowly and straight from its words: the search for a notice, closed tables and floors, clues,
and the manners of clients (8.1)."""

import heapq

from quietedition.doors import doors, given_sets, unlike_numbers
from quietedition.joint import Joint
from quietedition.manners import Manners
from quietedition.patterns import all_patterns, pattern, realise
from quietedition.reaching import leaving
from quietedition.rows import Call, Put, There
from quietedition.units import Client


def least_cost(joint, most):
    """The least cost of a notice, or None if it is above `most`: a search over values and stacks of waiting runs."""
    found = {}
    queue = []
    count = 0

    def push(cost, values, stack, begun):
        """Lets a run go on; the client then has control in the stack, or somebody notices."""
        nonlocal count
        event, values, frames, others = joint.go(*begun)
        values = realise(pattern(values, joint.kept), joint.kept)
        count += 1
        if event[0] == "unlike":
            heapq.heappush(queue, (cost, count, None, None))
        elif event[0] == "home":
            heapq.heappush(queue, (cost, count, values, stack))
        else:
            heapq.heappush(queue, (cost + 1, count, values, stack + ((frames, others),)))

    push(0, None, (), joint.load())
    while queue:
        cost, _, values, stack = heapq.heappop(queue)
        if cost > most:
            return None
        if values is None or joint.look(values) is not None:
            return cost
        if (values, stack) in found:
            continue
        found[(values, stack)] = cost
        for move in joint.moves(values, stack == ()):
            push(cost + 1, None, stack, joint.begin(values, move))
        if stack:
            push(cost, None, stack[:-1], (values,) + stack[-1])
    return None


def followed(joint, begun, states_of):
    """What a run may come to, as triples (kind, pattern, what calls back have added to the total).

    `states_of` tells for each base the pairs (state, spent) with which the client may come home.
    """
    ends = []
    waiting = [(begun, 0)]
    seen = {}
    while waiting:
        (values, frames, others), added = waiting.pop()
        event, values, frames, others = joint.go(values, frames, others)
        shape = pattern(values, joint.kept)
        if event[0] != "back":
            ends.append((event[0], shape, added))
            continue
        ends.append(("back", shape, added + 1))
        for state, spent in states_of(shape):
            key = (frames, others, state)
            if key not in seen or seen[key] > added + 1 + spent:
                seen[key] = added + 1 + spent
                waiting.append(((realise(state, joint.kept), frames, others), added + 1 + spent))
    return ends


def is_closed(joint, entries):
    """Whether the entries of one given set are closed (7.9)."""
    table = dict(entries)
    if None not in table or len(table) != len(entries):
        return False
    for base, states in entries:
        begins = [(joint.load(), None)] if base is None else []
        if base is not None and base not in states:
            return False
        for state in states:
            values = realise(state, joint.kept)
            if joint.look(values) is not None:
                return False
            begins.extend((joint.begin(values, move), base) for move in joint.moves(values, base is None))
        for begun, where in begins:
            for kind, shape, _ in followed(joint, begun, lambda q: [(t, 0) for t in table.get(q, ())]):
                if kind == "unlike" or (kind == "back" and shape not in table):
                    return False
                if kind == "home" and shape not in table[where]:
                    return False
    return True


def is_closed_below(joint, limit, entries):
    """Whether the entries of one given set are a floor that is closed below the limit (7.13)."""
    spent = {base: dict(states) for base, _, states in entries}
    reach = {base: least for base, least, _ in entries}
    if reach.get(None, 1) != 0 or len(spent) != len(entries):
        return False
    for base, least, states in entries:
        if base is not None and spent[base].get(base) != 0:
            return False
        begins = [(joint.load(), None, 0)] if base is None else []
        for state, cost in states:
            values = realise(state, joint.kept)
            if least + cost < limit and joint.look(values) is not None:
                return False
            begins.extend((joint.begin(values, move), base, least + cost + 1)
                          for move in joint.moves(values, base is None))
        for begun, where, total in begins:
            ends = followed(joint, begun, lambda q: list(spent.get(q, {}).items()))
            for kind, shape, added in ends:
                if total + added >= limit:
                    continue
                if kind == "unlike" or (kind == "back" and reach.get(shape, limit) > total + added):
                    return False
                if kind == "home" and spent[where].get(shape, limit) > total + added - reach[where]:
                    return False
    return True


def notices_by_words(elder, newer, moment, manners):
    """The tuples of 7.6 that apply."""
    cells = [cell for cell, (access, _) in elder.cells.items() if access == "open"]
    found = doors(elder, newer, moment, manners, elder.wants)
    told = [("wanted", name) for name in newer.wants if name not in elder.wants]
    told += [("door", door.name, door.tag) for door in found if door.second is None]
    usable = found or "shows" in manners or ("straight" in manners and cells)
    told += [("number", name) for name in elder.numbers
             if moment == "assembled" and name not in newer.numbers and usable]
    for cell in cells if "straight" in manners else []:
        size = len(elder.cells[cell][1])
        access, integers = newer.cells.get(cell, ("hidden", ()))
        if access == "hidden" or len(integers) < size or (moment == "loaded" and len(integers) > size):
            told.append(("cell", cell, size - 1))
    return told


class Replay:
    """The moves of a clue, played with a joint game: fails at the first word of 7.11 that does not hold.

    What things are is told by how they are shown, as True is equal to 1.
    """

    def __init__(self, elder, newer, moment, manners, given, moves):
        self.elder = elder
        self.newer = newer
        self.manners = manners
        self.given = given
        self.joint = Joint(elder, newer, moment, manners, given)
        self.doors = [repr((door.name, door.tag)) for door in doors(elder, newer, moment, manners, given)]
        self.unlike = [name for name in unlike_numbers(elder, newer) if moment == "assembled"]
        self.spots = [place for place in elder.places() if elder.cells[place[0]][0] == "open" and "straight" in manners]
        self.cost = 0
        self.noticed = False
        assert moves[0][0] == "load"
        self.play(self.joint.first_values, moves, True)
        assert self.noticed

    def looks(self, values):
        for place in self.spots:
            at = self.elder.places().index(place)
            if values[at] != values[len(self.elder.places()) + self.newer.places().index(place)]:
                yield ("look",) + place
        for name in self.elder.offers() + self.newer.offers():
            both = name in self.elder.offers() and name in self.newer.offers()
            if "asks" in self.manners and not both and name not in self.given:
                yield ("ask", name)
        for name in self.unlike if "shows" in self.manners else []:
            yield ("show", name)

    def check_value(self, value):
        assert type(value) is tuple
        kind, what = value
        if kind == "named":
            assert what in self.unlike
        else:
            assert kind == "number" and type(what) is int and abs(what) < 10 ** 9

    def play(self, values, moves, is_top):
        assert type(moves) is tuple
        for at, move in enumerate(moves):
            assert not self.noticed and type(move) is tuple
            if move[0] in ("look", "ask", "show"):
                assert repr(move) in [repr(look) for look in self.looks(values)]
                self.noticed = True
            elif move[0] == "write":
                self.cost += 1
                _, cell, index, value = move
                self.check_value(value)
                assert repr((cell, index)) in [repr(place) for place in self.spots]
                values = self.joint.begin(values, move)[0]
            elif move[0] == "load":
                assert at == 0 and is_top and len(move) == 2
                values = self.homes(self.joint.load(), move[1])
            else:
                _, name, tag, value, homes = move
                self.check_value(value)
                assert move[0] == "call" and repr((name, tag)) in self.doors and (is_top or "within" in self.manners)
                assert at > 0 or not is_top
                self.cost += 1
                values = self.homes(self.joint.begin(values, move[:4]), homes)
        return values

    def homes(self, begun, homes):
        assert type(homes) is tuple
        event, values, frames, others = self.joint.go(*begun)
        for at, home in enumerate(homes):
            assert type(home) is tuple
            name, moves = home
            assert not self.noticed and event[:2] == ("back", name)
            self.cost += 1
            values = self.play(values, moves, False)
            if self.noticed:
                assert at == len(homes) - 1
                return values
            event, values, frames, others = self.joint.go(values, frames, others)
        assert event[0] in ("home", "unlike")
        self.noticed = event[0] == "unlike"
        return values


def is_clue_by_words(elder, newer, moment, manners, thing):
    """Whether any value is a clue (7.11)."""
    notices = notices_by_words(elder, newer, moment, manners)
    if repr(thing) in [repr(notice) for notice in notices]:
        return True
    try:
        kind, given, moves = thing
        assert not notices and type(thing) is tuple and kind == "game"
        assert repr(given) in [repr(names) for names in given_sets(elder, newer, manners)]
        Replay(elder, newer, moment, manners, given, moves)
    except (AssertionError, TypeError, ValueError, IndexError):
        return False
    return True


def ints_from_zero(thing):
    return type(thing) is int and thing >= 0


class EntriesByWords:
    """What tables and floors look like, and whether they are closed."""

    def __init__(self, elder, newer, moment, manners):
        self.sets = given_sets(elder, newer, manners)
        self.joints = [Joint(elder, newer, moment, manners, given) for given in self.sets]
        joint = self.joints[0]
        self.patterns = list(all_patterns(len(joint.first_values), joint.kept))
        self.shown = {repr(shape) for shape in self.patterns}

    def check_entries(self, thing, size):
        assert type(thing) is list
        heads = []
        for entry in thing:
            assert type(entry) is tuple and len(entry) == size
            assert repr(entry[0]) in [repr(names) for names in self.sets]
            assert entry[1] is None or repr(entry[1]) in self.shown
            heads.append((entry[0], entry[1] is not None, entry[1] or ()))
        assert heads == sorted(set(heads))

    def check_states(self, states):
        assert all(repr(state) in self.shown for state in states)
        assert list(states) == sorted(set(states))

    def is_table(self, thing):
        try:
            self.check_entries(thing, 3)
            for _, _, states in thing:
                assert type(states) is tuple
                self.check_states(states)
        except (AssertionError, TypeError, ValueError):
            return False
        return all(is_closed(joint, [entry[1:] for entry in thing if entry[0] == given])
                   for given, joint in zip(self.sets, self.joints))

    def is_floor(self, limit, thing):
        try:
            self.check_entries(thing, 4)
            for _, base, reach, states in thing:
                assert type(states) is tuple and ints_from_zero(reach) and (reach == 0 or base is not None)
                for pair in states:
                    assert type(pair) is tuple
                    _, spent = pair
                    assert ints_from_zero(spent)
                self.check_states([state for state, _ in states])
        except (AssertionError, TypeError, ValueError):
            return False
        return all(is_closed_below(joint, limit, [entry[1:] for entry in thing if entry[0] == given])
                   for given, joint in zip(self.sets, self.joints))


def value_text(value):
    return str(value[1]) if value[0] == "number" else "#" + value[1]


class Writer:
    """A client that does the moves of a clue, in the order of its calls back, and then nothing."""

    def __init__(self, given, moves):
        self.count = 0
        self.turns = {name: [] for name in given}
        start = self.rows(moves)
        lines = ["unit told", "cell turn 0"]
        for code, name in enumerate(given):
            lines.extend([f"routine {name}", f"tell {code}", "tell it"])
            for turn, rows in self.turns[name]:
                lines.extend([f"same $turn {turn} else {len(rows) + 2}", f"set $turn {turn + 1}"] + rows + ["end"])
            lines.append("end")
        self.client = Client.of("\n".join(lines + ["start"] + start + ["end"]))

    def rows(self, moves):
        rows = []
        for move in moves:
            if move[0] == "call":
                rows.append(f"call {move[1]} {value_text(move[3])}" + (f" at {move[2]}" if move[2] else ""))
            elif move[0] == "write":
                rows.append(f"set {move[1]}.{move[2]} {value_text(move[3])}")
            elif move[0] == "look":
                rows.append(f"tell {move[1]}.{move[2]}")
            elif move[0] == "ask":
                rows.extend([f"there {move[1]} else 1", "tell 1"])
            elif move[0] == "show":
                rows.append(f"tell #{move[1]}")
            if move[0] in ("load", "call"):
                for name, inner in move[-1]:
                    turn = self.count
                    self.count += 1
                    self.turns[name].append((turn, self.rows(inner)))
            if move[0] == "call":
                # So that a run which comes home is unlike one that calls back, whatever follows.
                rows.append("tell 99")
        return rows


def manners_by_words(client, elder, newer):
    """The manners of a client (8.1)."""
    given = client.given()
    names = set()
    for unit in client.units:
        for block in unit.blocks:
            for row in block.rows:
                leaves = isinstance(row, Call) and unit.block(row.name) is None and row.name not in given
                if isinstance(row, There):
                    names.add("asks")
                if leaves and row.tag:
                    names.add("tags")
                for value in row.operands():
                    if value[0] == "place":
                        names.add("straight")
                    given_away = leaves or (isinstance(row, Put) and row.place[0] == "place")
                    if value[0] == "named" and not given_away:
                        names.add("shows")
            is_entry = block.name in elder.entries() + newer.entries()
            if block.kind == "shared" and is_entry and leaving(client.units, unit.name, block.name):
                names.add("within")
    for name in given:
        if name in elder.offers():
            names.add("over")
        elif name not in elder.wants and (name in newer.offers() or name in newer.wants):
            names.add("free")
    return Manners(list(names))
