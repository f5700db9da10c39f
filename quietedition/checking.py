"""Whether any value is a closed table, a floor or a clue of a question (7.9, 7.11, 7.13)."""

from quietedition.closing import NO_LIMIT, are_closed
from quietedition.doors import all_at_once, at_once, check_bounds, given_sets, kept_numbers
from quietedition.joint import Joint
from quietedition.lists import ascending
from quietedition.patterns import is_pattern
from quietedition.playing import Play, is_integer, is_row

# The number of parts of an entry of each.
TABLE = 3
FLOOR = 4


class Form:
    """What the entries of tables and floors of a question look like."""

    def __init__(self, elder, newer, moment, manners):
        self.sets = given_sets(elder, newer, manners)
        self.kept = kept_numbers(elder, newer, moment)
        self.length = len(elder.places()) + len(newer.places())

    def is_state(self, thing):
        """Whether the thing is a pattern of joint values."""
        return is_pattern(thing, self.length, self.kept)

    def has_head(self, entry):
        """Whether an entry begins with a given set and a base."""
        return entry[0] in self.sets and (entry[1] is None or self.is_state(entry[1]))

    def is_states(self, thing):
        """Whether the thing is a tuple of patterns, ascending, each once."""
        if not isinstance(thing, tuple) or not all([self.is_state(part) for part in thing]):
            return False
        return list(thing) == ascending(thing)

    def is_spent(self, thing):
        """Whether the thing is a tuple of pairs (pattern, spent), ascending by patterns, each pattern once."""
        if not isinstance(thing, tuple) or not all([is_row(part, 2) for part in thing]):
            return False
        return self.is_states(tuple([part[0] for part in thing])) and all([is_cost(part[1]) for part in thing])

    def is_entry(self, thing, size):
        """Whether the thing is an entry of a table or, with one part more, of a floor."""
        if not is_row(thing, size) or not self.has_head(thing):
            return False
        if size == TABLE:
            return self.is_states(thing[2])
        return is_cost(thing[2]) and (thing[1] is not None or thing[2] == 0) and self.is_spent(thing[3])


def is_cost(thing):
    """Whether the thing is an integer from 0 on."""
    return is_integer(thing) and thing >= 0


def are_in_order(entries):
    """Whether entries with right heads stand in their order, and no two have the same head."""
    heads = [(entry[0], ()) if entry[1] is None else (entry[0], ("back", entry[1])) for entry in entries]
    return heads == ascending(heads)


def may_be_closed(elder, newer, moment, manners, thing, size):
    """Whether nobody notices at once, and the thing has the entries of a table or a floor; raises as `is_table`."""
    check_bounds(elder, newer, moment, manners)
    form = Form(elder, newer, moment, manners)
    if not isinstance(thing, list) or not all([form.is_entry(entry, size) for entry in thing]):
        return False
    return are_in_order(thing) and at_once(elder, newer, moment, manners) is None


def is_table(elder, newer, moment, manners, thing):
    """Whether the thing is a closed table; raises BadMoment and TooMany."""
    if not may_be_closed(elder, newer, moment, manners, thing, TABLE):
        return False
    entries = [(given, base, 0, [(state, 0) for state in states]) for given, base, states in thing]
    return are_closed(elder, newer, moment, manners, entries, NO_LIMIT)


def is_floor(elder, newer, moment, manners, cost, thing):
    """Whether the thing is a floor that is closed below the cost; raises BadMoment and TooMany."""
    if not may_be_closed(elder, newer, moment, manners, thing, FLOOR):
        return False
    return are_closed(elder, newer, moment, manners, thing, cost)


def is_clue(elder, newer, moment, manners, thing):
    """Whether the thing is a clue, whatever its cost; raises BadMoment and TooMany."""
    check_bounds(elder, newer, moment, manners)
    notices = all_at_once(elder, newer, moment, manners)
    if not isinstance(thing, tuple) or any([isinstance(part, bool) for part in thing]):
        return False
    if thing in notices:
        return True
    if len(notices) > 0 or not is_row(thing, 3) or thing[0] != "game":
        return False
    _, given, moves = thing
    if given not in given_sets(elder, newer, manners) or not isinstance(moves, tuple):
        return False
    return Play(Joint(elder, newer, moment, manners, given), moves).is_right()
