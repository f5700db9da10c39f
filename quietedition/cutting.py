"""Taking parts of a client away, and cutting a client that notices (8.5, 8.6)."""

from quietedition.judging import manners_of
from quietedition.machine import LIMIT
from quietedition.rows import Same, There
from quietedition.trials import Trial
from quietedition.units import Block, Client, Unit
from quietedition.world import check_moment


def removals(client):
    """Yields the removals (unit, block, row) of a client in their order."""
    for unit in range(len(client.units) - 1, -1, -1):
        yield (unit, None, None)
        blocks = client.units[unit].blocks
        for block in range(len(blocks) - 1, -1, -1):
            yield (unit, block, None)
            for row in range(len(blocks[block].rows) - 1, -1, -1):
                yield (unit, block, row)


def is_skipping(row):
    """Whether the row is one that may skip rows."""
    return isinstance(row, (Same, There))


def skipping_less(row):
    """The row, which may skip rows, with one row fewer to skip."""
    if isinstance(row, There):
        return There(row.name, row.skip - 1)
    return Same(row.left, row.right, row.skip - 1)


def rows_without(rows, gone):
    """The rows of a block without one of them, and without those that would skip no row then."""
    while gone is not None:
        left = [skipping_less(row) if is_skipping(row) and at < gone and gone <= at + row.skip else row
                for at, row in enumerate(rows)]
        del left[gone]
        rows = left
        # There is one at most: only the row just ahead can have skipped that row alone.
        empty = [at for at, row in enumerate(rows) if is_skipping(row) and row.skip == 0]
        gone = empty[0] if len(empty) > 0 else None
    return rows


def unit_without(unit, block, row):
    """The unit without a block, or without a row of that block."""
    blocks = list(unit.blocks)
    part = blocks[block]
    rows = [] if row is None else rows_without(list(part.rows), row)
    if len(rows) > 0:
        blocks[block] = Block(part.kind, part.name, rows)
    else:
        del blocks[block]
    return Unit(unit.name, unit.is_late, unit.cells, blocks)


def without(client, unit, block=None, row=None):
    """The client without one of its removals, or None if no unit is left."""
    units = list(client.units)
    if block is None:
        del units[unit]
    else:
        units[unit] = unit_without(units[unit], block, row)
    return Client(units) if len(units) > 0 else None


def rank(removal):
    """Where a removal stands in the order of all removals."""
    unit, block, row = removal
    if block is None:
        return (-unit,)
    return (-unit, -block) if row is None else (-unit, -block, -row)


def removal_behind(client, removal):
    """The first removal of the client that stands behind this one, or None."""
    found = [other for other in removals(client) if rank(other) > rank(removal)]
    return found[0] if len(found) > 0 else None


class Question:
    """Two editions and a moment, and the limit of the runs."""

    def __init__(self, elder, newer, moment, limit):
        self.elder = elder
        self.newer = newer
        self.moment = moment
        self.limit = limit

    def is_noticed_by(self, client):
        """Whether the client notices."""
        trial = Trial(client, self.elder, self.newer, self.moment, limit=self.limit)
        return trial.is_noticing

    def allows(self, client, smaller):
        """Whether a removal is made that leaves the smaller client, None if no unit is left."""
        if smaller is None:
            return False
        manners = manners_of(client, self.elder, self.newer)
        return manners_of(smaller, self.elder, self.newer).is_part_of(manners) and self.is_noticed_by(smaller)


def cut_steps(client, elder, newer, moment, *, limit=LIMIT):
    """Yields the client, and then the client behind each removal that is made; raises BadMoment."""
    check_moment(moment)
    yield client
    question = Question(elder, newer, moment, limit)
    at_hand = client
    is_done = not question.is_noticed_by(client)
    while not is_done:
        is_done = True
        removal = (len(at_hand.units) - 1, None, None)
        while removal is not None:
            unit, block, row = removal
            smaller = without(at_hand, unit, block, row)
            if question.allows(at_hand, smaller):
                at_hand = smaller
                is_done = False
                yield at_hand
            removal = removal_behind(at_hand, removal)


def cut(client, elder, newer, moment, *, limit=LIMIT):
    """The client with as much taken away as can be; raises BadMoment."""
    return list(cut_steps(client, elder, newer, moment, limit=limit))[-1]
