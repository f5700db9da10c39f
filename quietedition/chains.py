"""Chains of editions that break: two quiet steps that are not quiet together (10.3 to 10.5)."""

from quietedition.judging import manners_of
from quietedition.runs import outcome
from quietedition.world import World, worlds
from quietedition.writing import written


def broken(quiet):
    """The chains that break, ascending; `quiet` tells it of all pairs (i, j) with i below j."""
    count = max([j + 1 for _, j in quiet], default=0)
    chains = [(i, j, k) for i in range(count) for j in range(i + 1, count) for k in range(j + 1, count)]
    return [(i, j, k) for i, j, k in chains if quiet[(i, j)] and quiet[(j, k)] and not quiet[(i, k)]]


class Break:
    """A chain that breaks, with a client that notices both steps together, its five outcomes, and the reason."""

    def __init__(self, chain, client, rows, reason):
        self.chain = chain
        self.client = client
        self.rows = rows
        self.reason = reason


def behind(elder, newer, moment):
    """The world in which the newer edition has taken the place of the elder one."""
    return worlds(elder, newer, moment)[1]


def break_of(house, chain, moment, manners):
    """The break of a chain of a house."""
    i, j, k = chain
    client = written(house.verdict(i, k, moment, manners))
    first, second, third = [house[at] for at in chain]
    runs = [World.of(first), behind(first, second, moment), World.of(second), behind(second, third, moment),
            behind(first, third, moment)]
    is_allowed = (manners_of(client, first, second).is_part_of(manners)
                  and manners_of(client, second, third).is_part_of(manners))
    return Break(chain, client, tuple([outcome(client, world) for world in runs]),
                 "notes" if is_allowed else "manners")


def breaks(house, moment, manners):
    """The breaks of a house, ascending by chains; raises BadMoment and TooMany."""
    return [break_of(house, chain, moment, manners) for chain in broken(house.matrix(moment, manners))]
