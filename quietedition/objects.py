"""Objects: what assembling makes of units (2.1, 2.3, 2.4)."""

from quietedition.lists import ascending, once
from quietedition.rows import Call, There
from quietedition.units import Block, block_named


def rows_of(blocks):
    """The rows of the blocks, in their order."""
    return [row for block in blocks for row in block.rows]


def named(unit):
    """The names of the numbers that a unit names, in the order of first mention."""
    values = [value for row in rows_of(unit.blocks) for value in row.operands()]
    return once([value[1] for value in values if value[0] == "named"])


def filled_row(row, numbers):
    """The row with the numbers in the place of their names."""
    return row.with_operands([("number", numbers[value[1]]) if value[0] == "named" else value
                              for value in row.operands()])


def filled_blocks(blocks, numbers):
    """The blocks with the numbers in the place of their names."""
    return [Block(block.kind, block.name, [filled_row(row, numbers) for row in block.rows]) for block in blocks]


def leaving_calls(blocks):
    """The pairs (name, written tag) of call rows to none of these blocks, in the order of first mention."""
    calls = [row for row in rows_of(blocks) if isinstance(row, Call)]
    return once([(call.name, call.tag) for call in calls if block_named(blocks, call.name) is None])


def used_cells(blocks):
    """A dict from the cells of places to their greatest indexes, in the order of first mention."""
    uses = {}
    for row in rows_of(blocks):
        for value in row.operands():
            if value[0] == "place":
                uses[value[1]] = max(uses.get(value[1], 0), value[2])
    return uses


class Object:
    """What is noted of a unit and, of the edition with which it is assembled, of nothing but its numbers."""

    def __init__(self, unit, numbers):
        self.name = unit.name
        self.is_late = unit.is_late
        self.cells = dict(unit.cells)
        self.blocks = tuple(filled_blocks(unit.blocks, numbers))
        self.numbers = {name: numbers[name] for name in named(unit)}
        self.gives = unit.shared()
        self.calls = leaving_calls(self.blocks)
        self.uses = used_cells(self.blocks)
        self.asked = ascending([row.name for row in rows_of(self.blocks) if isinstance(row, There)])
        self.has_start = self.start_block() is not None

    def block(self, name):
        """The shared or inner block of that name, or None."""
        return block_named(self.blocks, name)

    def start_block(self):
        """The start, or None."""
        for block in self.blocks:
            if block.kind == "start":
                return block
        return None

    def __eq__(self, other):
        return (isinstance(other, Object) and self.name == other.name and self.is_late == other.is_late
                and self.cells == other.cells and self.blocks == other.blocks and self.numbers == other.numbers)
