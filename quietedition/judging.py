"""The manners of a client (8.1)."""

from quietedition.manners import Manners
from quietedition.reaching import Blocks
from quietedition.rows import Call, Put, There


class Texts:
    """The texts of a client's units, and where their call rows go."""

    def __init__(self, client):
        self.units = client.units
        self.given = client.given()
        self.blocks = Blocks(client.units)
        self.rows = [(unit.name, row) for unit in client.units for block in unit.blocks for row in block.rows]

    def leaves(self, unit, row):
        """Whether a row of a unit is a call row that leaves the client."""
        return isinstance(row, Call) and self.blocks.target(unit, row.name) is None

    def shows(self, unit, row):
        """Whether a number's name stands in a row of a unit where its integer may come back to the client."""
        names = [value for value in row.operands() if value[0] == "named"]
        is_passed = self.leaves(unit, row) or (isinstance(row, Put) and row.place[0] == "place")
        return len(names) > 0 and not is_passed

    def reaches_out(self, unit, name):
        """Whether a block of a unit reaches a block with a call row that leaves the client."""
        found = self.blocks.reached((unit, name))
        return any([self.leaves(block[0], row) for block in found for _, row in self.blocks.calls[block]])

    def goes_within(self, names):
        """Whether a shared block of one of these names reaches out."""
        shared = [(unit.name, name) for unit in self.units for name in unit.shared() if name in names]
        return any([self.reaches_out(unit, name) for unit, name in shared])


def is_free(name, elder, newer):
    """Whether only the newer edition offers or wants a name."""
    if name in elder.offers() or name in elder.wants:
        return False
    return name in newer.offers() or name in newer.wants


def manners_of(client, elder, newer):
    """The manners that a client has with these editions."""
    texts = Texts(client)
    values = [value for _, row in texts.rows for value in row.operands()]
    has = {
        "asks": any([isinstance(row, There) for _, row in texts.rows]),
        "free": any([is_free(name, elder, newer) for name in texts.given]),
        "over": any([name in elder.offers() for name in texts.given]),
        "shows": any([texts.shows(unit, row) for unit, row in texts.rows]),
        "straight": any([value[0] == "place" for value in values]),
        "tags": any([texts.leaves(unit, row) and row.tag != 0 for unit, row in texts.rows]),
        "within": texts.goes_within(elder.entries() + newer.entries()),
    }
    return Manners([name for name in Manners.ALL if has[name]])
