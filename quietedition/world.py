"""Worlds and moments (5.8)."""

from quietedition.errors import BadMoment


class Moment:
    """The moments at which a newer edition is put in the place of the elder one."""

    ASSEMBLED = "assembled"
    LINKED = "linked"
    LOADED = "loaded"
    ALL = ("assembled", "linked", "loaded")


def check_moment(moment):
    """Raises BadMoment if the value is none of the three moments."""
    if moment not in Moment.ALL:
        raise BadMoment(moment)


class World:
    """The editions with which units are assembled, linked and loaded."""

    def __init__(self, assembled, linked, loaded):
        self.assembled = assembled
        self.linked = linked
        self.loaded = loaded

    @classmethod
    def of(cls, edition):
        """The world of three times this edition."""
        return cls(edition, edition, edition)

    def __eq__(self, other):
        return (isinstance(other, World) and self.assembled == other.assembled and self.linked == other.linked
                and self.loaded == other.loaded)


def worlds(elder, newer, moment):
    """The world of the elder edition, and the one in which the newer edition takes its place; raises BadMoment."""
    check_moment(moment)
    assembled = newer if moment == Moment.ASSEMBLED else elder
    linked = elder if moment == Moment.LOADED else newer
    return (World.of(elder), World(assembled, linked, newer))
