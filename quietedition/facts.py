"""What linking notes (3.4), as lists of facts."""

from quietedition.linking import link


def facts(linked):
    """The notes and then the sizes of a linked client, each ascending."""
    notes = [("note", name, tag, noted) for (name, tag), noted in linked.notes.items()]
    return notes + [("size", cell, size) for cell, size in linked.sizes.items()]


def what_parts(objects, first, second):
    """What two editions note unlike of the same objects; raises NotLinked."""
    one = link(objects, first)
    two = link(objects, second)
    # Demands depend on the objects alone, so both have the same notes and sizes but for their integers.
    notes = [("note", name, tag, noted, two.notes[(name, tag)]) for (name, tag), noted in one.notes.items()]
    sizes = [("size", cell, size, two.sizes[cell]) for cell, size in one.sizes.items()]
    return [fact for fact in notes + sizes if fact[-2] != fact[-1]]


def row_line(word, name, rest):
    """A line of the table."""
    return f"{word:<6}{name:<12} {rest}"


def table(linked):
    """The lines that show a linked client."""
    given = [row_line("given", name, unit) for name, unit in linked.given.items()]
    notes = [row_line("note", name, f"{tag} {noted}") for (name, tag), noted in linked.notes.items()]
    return given + notes + [row_line("size", cell, size) for cell, size in linked.sizes.items()]
