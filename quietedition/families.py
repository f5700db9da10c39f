"""Families of sets of manners (9.1, 9.2)."""

from quietedition.manners import Manners


def family(sets):
    """The sets, each once, in the order of families."""
    known = {manners.names: manners for manners in sets}
    return sorted(list(known.values()), key=lambda manners: (len(manners), str(manners)))


def is_proper_part(manners, other):
    """Whether the other set has all manners of this one, and some more."""
    return manners.is_part_of(other) and len(manners) < len(other)


def least(sets):
    """The sets that have no other set of the list as a part."""
    return family([manners for manners in sets if not any([is_proper_part(other, manners) for other in sets])])


def greatest(sets):
    """The sets that are no part of another set of the list."""
    return family([manners for manners in sets if not any([is_proper_part(manners, other) for other in sets])])


def meets(first, second):
    """Whether both sets have some manner."""
    return len(first & second) > 0


def parts(among):
    """All parts of a set, the empty one first."""
    found = [Manners.of()]
    for name in among:
        found = found + [manners | Manners.of(name) for manners in found]
    return family(found)


def barring(sets, among):
    """The least parts of a set that meet every set of the list."""
    return least([part for part in parts(among) if all([meets(part, manners) for manners in sets])])


def complements(sets, among):
    """What each set of the list leaves of a set."""
    return family([among - manners for manners in sets])


def is_antichain(sets):
    """Whether no set occurs twice in the list or is a part of another one."""
    return not any([manners.is_part_of(other) for at, manners in enumerate(sets)
                    for place, other in enumerate(sets) if at != place])
