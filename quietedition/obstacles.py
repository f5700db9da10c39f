"""Obstacles: which clients of an elder edition a newer one refuses (4.8, 4.9)."""

from quietedition.linking import size_of
from quietedition.lists import ascending
from quietedition.rows import Call, End, Tell
from quietedition.scope import landed
from quietedition.units import Block, Client, Unit


def wanted_rows(elder, newer):
    """The obstacles for names that only the newer edition wants."""
    return [("wanted", name, 0) for name in newer.wants if name not in elder.wants]


def linking_calls(elder, newer):
    """The obstacles for names and written tags that only the elder edition links."""
    rows = []
    for name in elder.offers():
        tags = [tag for tag in range(10) if elder.visible(name, tag) is not None]
        refused = [tag for tag in tags if newer.visible(name, tag) is None]
        if name not in newer.offers():
            rows.extend([("name", name, tag) for tag in refused])
        else:
            rows.extend([("default" if tag == 0 else "tag", name, tag) for tag in refused])
    return rows


def loading_calls(elder, newer):
    """The obstacles for visible members of the elder edition whose notes reach nothing in the newer one."""
    offered = newer.offers()
    visible = [member for member in elder.members if member.access != "hidden"]
    return [("tag" if member.name in offered else "name", member.name, member.tag) for member in visible
            if landed(newer, member.name, member.tag) is None]


def cell_rows(elder, newer, stage):
    """The obstacles for the open cells of the elder edition."""
    rows = []
    for cell in elder.cells:
        had = size_of(elder, cell)
        size = size_of(newer, cell)
        if had is None:
            continue
        if size is None:
            rows.append(("cell", cell, 0))
        elif stage == "linking" and size < had:
            rows.append(("place", cell, size))
        elif stage == "loading" and size != had:
            rows.append(("size", cell, size))
    return rows


def obstacle_rows(elder, newer, stage):
    """All obstacles of a stage, ascending."""
    calls = linking_calls(elder, newer) if stage == "linking" else loading_calls(elder, newer)
    # Whoever calls a name that the newer edition wants, and does not give it, is refused as "wanted" already.
    calls = [row for row in calls if row[1] not in newer.wants]
    return ascending(wanted_rows(elder, newer) + calls + cell_rows(elder, newer, stage))


def greatest_index(linked, cell):
    """The greatest index with which an object uses the cell, or -1 if none uses it."""
    return max([made.uses.get(cell, -1) for made in linked.objects])


def probe_rows(row):
    """The rows of the start of an obstacle's client."""
    cause, name, detail = row
    if cause == "wanted":
        return [End()]
    if cause in ("name", "tag", "default"):
        return [End(), Call(name, ("number", 0), detail)]
    return [End(), Tell(("place", name, detail if cause == "place" else 0))]


class Obstacles:
    """The obstacles at one stage, "linking" or "loading"."""

    def __init__(self, elder, newer, stage):
        self.elder = elder
        self.newer = newer
        self.stage = stage
        self.rows = tuple(obstacle_rows(elder, newer, stage))

    def had_by(self, linked):
        """The obstacles that a client has, as the elder edition linked it, ascending."""
        return [row for row in self.rows if self.is_had(row, linked)]

    def is_had(self, row, linked):
        """Whether a client has the obstacle."""
        cause, name, detail = row
        if cause == "wanted":
            return name not in linked.given
        if cause in ("name", "tag", "default"):
            return name not in linked.given and self.is_called(name, detail, linked)
        return greatest_index(linked, name) >= (detail if cause == "place" else 0)

    def is_called(self, name, tag, linked):
        """Whether an object calls the name so that this stage meets it with this tag."""
        for made in linked.objects:
            if self.stage == "linking" and (name, tag) in made.calls:
                return True
            if self.stage == "loading" and not made.is_late:
                if tag in [linked.noted(name, written) for other, written in made.calls if other == name]:
                    return True
        return False

    def client(self, row):
        """The client of one of these obstacles: it has this obstacle and no other."""
        names = [name for name in self.elder.wants + self.newer.wants if row[0] != "wanted" or name != row[1]]
        blocks = [Block("shared", name, [End()]) for name in ascending(names)]
        return Client([Unit("probe", False, {}, blocks + [Block("start", "", probe_rows(row))])])

    def __iter__(self):
        return iter(self.rows)

    def __len__(self):
        return len(self.rows)

    def __contains__(self, row):
        return row in self.rows


def linking_obstacles(elder, newer):
    """The obstacles of linking anew with the newer edition."""
    return Obstacles(elder, newer, "linking")


def loading_obstacles(elder, newer):
    """The obstacles of loading what the elder edition linked with the newer one."""
    return Obstacles(elder, newer, "loading")
