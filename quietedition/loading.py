"""Loading a linked client with an edition (4.1 to 4.7)."""

from quietedition.errors import NotLoaded
from quietedition.linking import size_of
from quietedition.ordering import first_order
from quietedition.reaching import Blocks
from quietedition.scope import Scope, landed


class Image:
    """A linked client together with the edition that loaded it."""

    def __init__(self, linked, edition):
        self.linked = linked
        self.edition = edition
        self.firsts = tuple(first_order(edition))
        self.scope = Scope(edition, list(linked.given))
        self.stays = Blocks(linked.objects)

    def reach(self, unit, name, tag=0):
        """Where a call row of the name and written tag in a block of the unit goes; None if it is lost."""
        block = self.stays.target(unit, name)
        if block is not None:
            return ("client", block[0], block[1])
        noted = self.linked.noted(name, tag)
        real = None if noted is None else landed(self.edition, name, noted)
        return None if real is None else ("edition", name, real)

    def why(self, unit, name, tag=0):
        """Why such a call row goes there."""
        target = self.reach(unit, name, tag)
        if target is None:
            return "lost"
        if target[0] == "edition":
            return "noted"
        return "given" if self.linked.given.get(name, "") == target[1] else "inner"

    def reach_of_edition(self, name, tag=0):
        """Where a call row of the edition goes, with the unit that is called back."""
        target = self.scope.reach(name, tag)
        if target is None or target[0] == "edition":
            return target
        return ("client", self.linked.given[name], name)

    def why_of_edition(self, name, tag=0):
        """Why a call row of the edition goes there."""
        return self.scope.why(name, tag)

    def there(self, name):
        """Whether the client gives the name, or the edition offers it."""
        return name in self.linked.given or name in self.edition.offers()

    def targets(self):
        """The tuples (unit, name, tag, target, why) of the calls of the objects, in their order."""
        calls = [(made.name, name, tag) for made in self.linked.objects for name, tag in made.calls]
        return [(unit, name, tag, self.reach(unit, name, tag), self.why(unit, name, tag))
                for unit, name, tag in calls]

    def lost(self):
        """The tuples (unit, name, tag) of the calls that are lost, in the order of the objects."""
        return [(unit, name, tag) for unit, name, tag, _, why in self.targets() if why == "lost"]

    def __eq__(self, other):
        return isinstance(other, Image) and self.linked == other.linked and self.edition == other.edition


def check_wants(linked, edition):
    """Raises NotLoaded for the first wanted name that the client does not give."""
    for name in edition.wants:
        if name not in linked.given:
            raise NotLoaded("wanted", "", name)


def check_calls(made, linked, edition):
    """Raises NotLoaded for the first call of an object that reaches nothing in the edition."""
    for name, tag in made.calls:
        if name in linked.given:
            continue
        if name not in edition.offers():
            raise NotLoaded("name", made.name, name)
        if landed(edition, name, linked.noted(name, tag)) is None:
            raise NotLoaded("tag", made.name, name)


def check_cells(made, linked, edition):
    """Raises NotLoaded for the first cell of an object that the edition has not, or not of the noted size."""
    for cell in made.uses:
        size = size_of(edition, cell)
        if size is None:
            raise NotLoaded("cell", made.name, cell)
        if size != linked.sizes[cell]:
            raise NotLoaded("size", made.name, cell)


def load(linked, edition):
    """The image of a linked client in an edition; raises NotLoaded."""
    check_wants(linked, edition)
    for made in linked.objects:
        if not made.is_late:
            check_calls(made, linked, edition)
    for made in linked.objects:
        check_cells(made, linked, edition)
    return Image(linked, edition)
