"""Clients in worlds: images, outcomes, and whether an edition serves a client (5.9, 5.10)."""

from quietedition.assembling import assemble_all
from quietedition.errors import NotAssembled, NotLinked, NotLoaded
from quietedition.linking import link
from quietedition.loading import load
from quietedition.machine import LIMIT, Machine
from quietedition.world import World


def image_of(client, world):
    """The image of a client in a world; raises NotAssembled, NotLinked, NotLoaded."""
    return load(link(assemble_all(client, world.assembled), world.linked), world.loaded)


def told_rows(told):
    """The told rows of a run with these events."""
    rows = [(event[1], event[2]) for event in told if event[0] == "tell"]
    # The last event of every run says how it ends.
    how, _, name = told[-1][1].partition(" ")
    return rows + [("lost", name) if how == "lost" else ("end", how)]


def run_of(client, world, limit):
    """The told rows of a client in a world, and the events of its run, none if a stage refuses it."""
    try:
        image = image_of(client, world)
    except NotAssembled as unnamed:
        return ([("refused", "assembling", "number", unnamed.name)], [])
    except NotLinked as unlinked:
        return ([("refused", "linking", unlinked.cause, unlinked.name)], [])
    except NotLoaded as unloaded:
        return ([("refused", "loading", unloaded.cause, unloaded.name)], [])
    machine = Machine(image, limit=limit)
    told = list(machine.events())
    return (told_rows(told), told)


def outcome(client, world, *, limit=LIMIT):
    """The told rows of a client in a world."""
    rows, _ = run_of(client, world, limit)
    return rows


def unlike(first, second):
    """The least index at which two lists of told rows differ, or None."""
    for at, (one, two) in enumerate(zip(first, second)):
        if one != two:
            return at
    return None if len(first) == len(second) else min(len(first), len(second))


def is_served(client, edition):
    """Whether the edition serves the client: no stage refuses it in the world of three times this edition."""
    try:
        image_of(client, World.of(edition))
    except (NotAssembled, NotLinked, NotLoaded):
        return False
    return True
