"""The order of first blocks (4.2)."""


def first_order(edition):
    """The names of the first blocks in the order in which they are run."""
    taken = []
    while len(taken) < len(edition.firsts):
        waiting = [first for first in edition.firsts if first.name not in taken]
        ready = [first.name for first in waiting if all([name in taken for name in first.after])]
        taken.append(ready[0])
    return taken
