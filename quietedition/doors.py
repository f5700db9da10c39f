"""What a question about two editions begins with: numbers, names, doors, and what is noticed at once (7.2 to 7.6)."""

from quietedition.errors import TooMany
from quietedition.linking import size_of
from quietedition.lists import ascending
from quietedition.scope import landed
from quietedition.world import Moment, check_moment

MOST_NUMBERS = 3
MOST_NAMES = 2
MOST_PLACES = 2


class Door:
    """A name and a written tag, and the real tags of the members to which they lead."""

    def __init__(self, name, tag, first, second):
        self.name = name
        self.tag = tag
        self.first = first
        self.second = second

    def __eq__(self, other):
        return (isinstance(other, Door) and self.name == other.name and self.tag == other.tag
                and self.first == other.first and self.second == other.second)


def unlike_numbers(elder, newer):
    """The names of the numbers that both editions give, with different integers, ascending."""
    return sorted([name for name, number in elder.numbers.items() if newer.numbers.get(name, number) != number])


def kept_numbers(elder, newer, moment):
    """The kept numbers, ascending; raises BadMoment."""
    check_moment(moment)
    kept = elder.written() + newer.written()
    if moment == Moment.ASSEMBLED:
        for name in unlike_numbers(elder, newer):
            kept.extend([elder.numbers[name], newer.numbers[name]])
    return ascending(kept)


def is_chosen(name, elder, newer, manners):
    """Whether a client may choose if it gives an entry of one of the editions."""
    if name in elder.wants:
        return False
    if name in elder.offers():
        return "over" in manners
    return "free" in manners and (name in newer.offers() or name in newer.wants)


def chosen_names(elder, newer, manners):
    """The chosen names, ascending."""
    names = ascending(elder.entries() + newer.entries())
    return [name for name in names if is_chosen(name, elder, newer, manners)]


def given_sets(elder, newer, manners):
    """The given sets, each ascending, in ascending order."""
    whole = [list(elder.wants)]
    for name in chosen_names(elder, newer, manners):
        whole = whole + [names + [name] for names in whole]
    return sorted([tuple(ascending(names)) for names in whole])


def door_of(elder, newer, moment, name, tag):
    """The door of a name and a written tag, or None if the elder edition has no visible member there."""
    first = landed(elder, name, tag)
    if first is None:
        return None
    noted = first if moment == Moment.LOADED else tag
    return Door(name, tag, first, landed(newer, name, noted))


def doors(elder, newer, moment, manners, given):
    """The doors beside a client that gives these names, ascending; raises BadMoment."""
    check_moment(moment)
    names = [name for name in elder.offers() if name not in given]
    found = [door_of(elder, newer, moment, name, tag)
             for name in names for tag in range(10 if "tags" in manners else 1)]
    return [door for door in found if door is not None]


def wanted_notices(elder, newer):
    """The notices of names that only the newer edition wants, ascending."""
    return [("wanted", name) for name in sorted(newer.wants) if name not in elder.wants]


def open_cells(edition):
    """The names of the open cells, ascending."""
    return sorted([cell for cell in edition.cells if size_of(edition, cell) is not None])


def number_notices(elder, newer, manners, found):
    """The notices of numbers that only the elder edition has and that a client with these doors can name, ascending."""
    names = [name for name in elder.numbers if name not in newer.numbers]
    is_usable = "shows" in manners or ("straight" in manners and len(open_cells(elder)) > 0)
    return [("number", name) for name in sorted(names) if is_usable or len(found) > 0]


def cell_notices(elder, newer, moment):
    """The notices of open cells that the second world refuses, ascending."""
    notices = []
    for cell in open_cells(elder):
        had = size_of(elder, cell)
        size = size_of(newer, cell)
        if size is None or size < had or (moment == Moment.LOADED and size > had):
            notices.append(("cell", cell, had - 1))
    return notices


def all_at_once(elder, newer, moment, manners):
    """All that clients notice without a move, in the order in which it counts; raises BadMoment."""
    found = doors(elder, newer, moment, manners, elder.wants)
    notices = wanted_notices(elder, newer)
    notices.extend([("door", door.name, door.tag) for door in found if door.second is None])
    if moment == Moment.ASSEMBLED:
        notices.extend(number_notices(elder, newer, manners, found))
    if "straight" in manners:
        notices.extend(cell_notices(elder, newer, moment))
    return notices


def at_once(elder, newer, moment, manners):
    """What a client notices without a move, or None; raises BadMoment."""
    notices = all_at_once(elder, newer, moment, manners)
    return notices[0] if len(notices) > 0 else None


def check_bounds(elder, newer, moment, manners):
    """Raises BadMoment, or TooMany if the question is out of the bounds."""
    if len(kept_numbers(elder, newer, moment)) > MOST_NUMBERS:
        raise TooMany("numbers")
    if len(chosen_names(elder, newer, manners)) > MOST_NAMES:
        raise TooMany("names")
    if "within" in manners and len(elder.places() + newer.places()) > MOST_PLACES:
        raise TooMany("places")
