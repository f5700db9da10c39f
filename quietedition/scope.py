"""Where the calls of an edition go beside a client (4.3, 4.6)."""

from quietedition.editions import First
from quietedition.lists import ascending
from quietedition.rows import Call


def landed(edition, name, noted):
    """The real tag that the name and the noted tag reach, or None."""
    member = edition.visible(name, noted)
    return None if member is None else member.tag


def head_of(block):
    """How a block is told: ("first", name) or ("routine", name, real tag)."""
    return ("first", block.name) if isinstance(block, First) else ("routine", block.name, block.tag)


class Scope:
    """The calls of an edition beside a client that gives some names."""

    def __init__(self, edition, given):
        self.edition = edition
        self.given = tuple(ascending(given))

    def reach(self, name, tag=0):
        """Where the name and the tag go, or None if the edition has nothing of that name and tag."""
        why = self.why(name, tag)
        if why is None:
            return None
        if why == "wanted" or why == "taken":
            return ("client", name)
        return ("edition", name, self.edition.member(name, tag).tag)

    def why(self, name, tag=0):
        """Why the name and the tag go there, or None."""
        if tag == 0 and name in self.edition.wants:
            return "wanted"
        member = self.edition.member(name, tag)
        if member is None:
            return None
        return "taken" if member.access == "open" and name in self.given else member.access

    def targets(self):
        """The tuples (head, row, name, tag, target, why) of the edition's call rows, in the order of the text."""
        calls = [(head_of(block), at, row) for block in self.edition.blocks
                 for at, row in enumerate(block.rows) if isinstance(row, Call)]
        return [(head, at, row.name, row.tag, self.reach(row.name, row.tag), self.why(row.name, row.tag))
                for head, at, row in calls]

    def entered(self):
        """The names under which some call row goes to the client, ascending."""
        return ascending([name for _, _, name, _, target, _ in self.targets() if target[0] == "client"])
