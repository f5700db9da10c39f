"""Linking objects with an edition (3.1 to 3.5)."""

from quietedition.errors import NotLinked
from quietedition.lists import ascending


def in_order(objects):
    """The objects in ascending order of their unit names."""
    return sorted(objects, key=lambda made: made.name)


def givers(objects):
    """A dict from the given names, ascending, to the first units that give them."""
    units = {}
    for made in in_order(objects):
        for name in made.gives:
            units.setdefault(name, made.name)
    return {name: units[name] for name in sorted(units)}


def demands(objects):
    """What the objects demand of an edition, ascending."""
    given = givers(objects)
    calls = [("routine", name, tag) for made in objects for name, tag in made.calls if name not in given]
    greatest = {}
    for made in objects:
        for cell, index in made.uses.items():
            greatest[cell] = max(greatest.get(cell, 0), index)
    return ascending(calls + [("cell", cell, index) for cell, index in greatest.items()])


def size_of(edition, cell):
    """The number of places of an open cell, or None if the edition has no such open cell."""
    if cell not in edition.cells or edition.cells[cell][0] != "open":
        return None
    return len(edition.cells[cell][1])


def meets(demand, edition):
    """Whether the edition meets the demand."""
    kind, name, number = demand
    if kind == "routine":
        return edition.visible(name, number) is not None
    size = size_of(edition, name)
    return size is not None and number < size


def twice_refusals(ordered):
    """The refusals for names that more than one object gives."""
    rows = []
    earlier = {}
    for made in ordered:
        rows.extend([("twice", made.name, name) for name in made.gives if name in earlier])
        for name in made.gives:
            earlier[name] = True
    return rows


def start_refusals(ordered):
    """The refusals for a start that is missing, or for starts behind the first one."""
    starts = [made.name for made in ordered if made.has_start]
    if len(starts) == 0:
        return [("start", "", "")]
    return [("start", name, "") for name in starts[1:]]


def call_refusals(made, edition, given):
    """The refusals for the calls of an object."""
    offered = edition.offers()
    rows = []
    for name, tag in made.calls:
        if name in given or edition.visible(name, tag) is not None:
            continue
        if name not in offered:
            rows.append(("name", made.name, name))
        else:
            rows.append(("tag" if tag != 0 else "default", made.name, name))
    return rows


def cell_refusals(made, edition):
    """The refusals for the cells that an object uses."""
    rows = []
    for cell, index in made.uses.items():
        size = size_of(edition, cell)
        if size is None:
            rows.append(("cell", made.name, cell))
        elif index >= size:
            rows.append(("place", made.name, cell))
    return rows


def refusals(objects, edition):
    """All refusals of the objects and the edition, in the order in which they are raised."""
    ordered = in_order(objects)
    given = givers(objects)
    rows = twice_refusals(ordered) + start_refusals(ordered)
    rows.extend([("wanted", "", name) for name in edition.wants if name not in given])
    for made in ordered:
        rows.extend(call_refusals(made, edition, given))
        rows.extend(cell_refusals(made, edition))
    return rows


class Linked:
    """A linked client: its objects, and what was noted of the edition that linked them."""

    def __init__(self, objects, notes, sizes):
        self.objects = tuple(in_order(objects))
        self.notes = {pair: notes[pair] for pair in sorted(notes)}
        self.sizes = {cell: sizes[cell] for cell in sorted(sizes)}
        self.given = givers(objects)
        self.start = [made.name for made in self.objects if made.has_start][0]

    def noted(self, name, tag=0):
        """The noted tag for the name and the written tag, or None if there is no such note."""
        return self.notes.get((name, tag), None)

    def __eq__(self, other):
        return (isinstance(other, Linked) and self.objects == other.objects and self.notes == other.notes
                and self.sizes == other.sizes)


def link(objects, edition):
    """The linked client; raises NotLinked with the first refusal."""
    refused = refusals(objects, edition)
    if len(refused) > 0:
        cause, unit, name = refused[0]
        raise NotLinked(cause, unit, name)
    notes = {}
    sizes = {}
    for kind, name, number in demands(objects):
        if kind == "routine":
            notes[(name, number)] = edition.member(name, number).tag
        else:
            sizes[name] = size_of(edition, name)
    return Linked(objects, notes, sizes)
