"""Renamings of integers (6.r1 to 6.r3)."""

from quietedition.editions import Edition, First, Member
from quietedition.errors import BadRenaming
from quietedition.lists import ascending
from quietedition.objects import rows_of
from quietedition.units import Block, Client, Unit

GREATEST = 999999999


def numerals(blocks):
    """The integers that are values of the rows of the blocks."""
    values = [value for row in rows_of(blocks) for value in row.operands()]
    return [value[1] for value in values if value[0] == "number"]


def numbers_of(edition):
    """The numbers that stand in an edition as values, first integers and number lines, ascending."""
    return ascending(numerals(edition.blocks) + edition.first_values() + list(edition.numbers.values()))


def numbers_in(client):
    """The numbers that stand in the units of a client as values and first integers, ascending."""
    numbers = []
    for unit in client.units:
        numbers.extend(numerals(unit.blocks) + list(unit.cells.values()))
    return ascending(numbers)


def is_short(thing):
    """Whether the thing is an integer of at most nine digits."""
    return isinstance(thing, int) and not isinstance(thing, bool) and abs(thing) <= GREATEST


def is_pair(thing):
    """Whether the thing is a list or tuple of two such integers."""
    return isinstance(thing, (list, tuple)) and len(thing) == 2 and all([is_short(part) for part in thing])


def check_pairs(pairs):
    """Raises BadRenaming for the first pair that does not belong to a renaming."""
    if not isinstance(pairs, (list, tuple)):
        raise BadRenaming(-1)
    firsts = []
    seconds = []
    for at, pair in enumerate(pairs):
        if not is_pair(pair) or pair[0] in firsts or pair[1] in seconds:
            raise BadRenaming(at)
        firsts.append(pair[0])
        seconds.append(pair[1])
    for at, second in enumerate(seconds):
        if second not in firsts:
            raise BadRenaming(at)


class Renaming:
    """A permutation of the integers that moves finitely many of them, made from pairs (n, m): n becomes m."""

    def __init__(self, pairs=()):
        check_pairs(pairs)
        self.moved = tuple(sorted([(n, m) for n, m in pairs if n != m]))
        self.becomes = {n: m for n, m in self.moved}

    @classmethod
    def swap(cls, n, m):
        """The renaming that exchanges two integers."""
        if not is_short(n) or not is_short(m):
            raise BadRenaming(0)
        return cls(() if n == m else ((n, m), (m, n)))

    def renamed(self, n):
        """What an integer becomes."""
        return self.becomes.get(n, n)

    def __call__(self, n):
        return self.renamed(n)

    def __len__(self):
        return len(self.moved)

    def __eq__(self, other):
        return isinstance(other, Renaming) and self.moved == other.moved

    def __mul__(self, other):
        numbers = ascending([n for n, _ in self.moved + other.moved])
        return Renaming([(n, self.renamed(other.renamed(n))) for n in numbers])

    def keeps(self, numbers):
        """Whether every integer of a list or tuple stays itself."""
        return all([self.renamed(n) == n for n in numbers])

    def inverse(self):
        """The renaming that undoes this one."""
        return Renaming([(m, n) for n, m in self.moved])

    def renamed_rows(self, rows):
        """The renamed rows of a block."""
        return [row.with_operands([self.renamed_value(value) for value in row.operands()]) for row in rows]

    def renamed_value(self, value):
        """The renamed value of a row."""
        return ("number", self.renamed(value[1])) if value[0] == "number" else value

    def renamed_block(self, block):
        """The renamed block of an edition or a unit."""
        rows = self.renamed_rows(block.rows)
        if isinstance(block, First):
            return First(block.name, block.after, rows)
        if isinstance(block, Member):
            return Member(block.name, block.access, block.tag, block.is_default, rows)
        return Block(block.kind, block.name, rows)

    def of_edition(self, edition):
        """The renamed edition."""
        numbers = {name: self.renamed(n) for name, n in edition.numbers.items()}
        cells = {cell: (access, [self.renamed(n) for n in integers])
                 for cell, (access, integers) in edition.cells.items()}
        blocks = [self.renamed_block(block) for block in edition.blocks]
        return Edition(edition.name, numbers, cells, edition.wants, blocks)

    def of_unit(self, unit):
        """The renamed unit."""
        cells = {cell: self.renamed(n) for cell, n in unit.cells.items()}
        return Unit(unit.name, unit.is_late, cells, [self.renamed_block(block) for block in unit.blocks])

    def of_client(self, client):
        """The client with its units renamed, in the same order."""
        return Client([self.of_unit(unit) for unit in client.units])

    def of_rows(self, rows):
        """The renamed told rows."""
        return [(row[0], self.renamed(row[1])) if row[0] in ("edition", "client") else row for row in rows]
