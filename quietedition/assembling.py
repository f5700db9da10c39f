"""Assembling units with the numbers of an edition (2.1, 2.2, 2.5)."""

from quietedition.errors import NotAssembled
from quietedition.objects import Object, filled_blocks, named
from quietedition.units import Unit


def check_numbers(unit, edition):
    """Raises NotAssembled for the first number that the unit names and the edition does not have."""
    for name in named(unit):
        if name not in edition.numbers:
            raise NotAssembled(unit.name, name)


def assemble(unit, edition):
    """The object of a unit; raises NotAssembled."""
    check_numbers(unit, edition)
    return Object(unit, edition.numbers)


def assemble_all(client, edition):
    """The objects of a client's units, in their order; raises NotAssembled."""
    return [assemble(unit, edition) for unit in client.units]


def written_out(unit, edition):
    """The unit with numerals in the place of the edition's numbers; raises NotAssembled."""
    check_numbers(unit, edition)
    return Unit(unit.name, unit.is_late, unit.cells, filled_blocks(unit.blocks, edition.numbers))


def agree(unit, first, second):
    """Whether both editions have all numbers that the unit names, with the same integers."""
    for name in named(unit):
        if name not in first.numbers or name not in second.numbers:
            return False
        if first.numbers[name] != second.numbers[name]:
            return False
    return True
