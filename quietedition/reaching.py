"""Where the call rows of a client go, and what its blocks reach (3.6, 3.7)."""

from quietedition.lists import ascending, once
from quietedition.rows import Call


class Blocks:
    """The blocks of some units or objects, each told as (unit, name), and where their call rows go."""

    def __init__(self, units):
        self.calls = {}
        self.givers = {}
        for unit in sorted(units, key=lambda part: part.name):
            for block in unit.blocks:
                rows = [(at, row) for at, row in enumerate(block.rows) if isinstance(row, Call)]
                self.calls[(unit.name, block.name)] = rows
                if block.kind == "shared":
                    self.givers.setdefault(block.name, unit.name)

    def target(self, unit, name):
        """The block to which a call of the name in that unit goes, or None."""
        if name != "" and (unit, name) in self.calls:
            return (unit, name)
        if name in self.givers:
            return (self.givers[name], name)
        return None

    def steps(self, block):
        """The pairs (row, block) of the call rows of a block that stay in the client."""
        rows = [(at, self.target(block[0], call.name)) for at, call in self.calls[block]]
        return [(at, target) for at, target in rows if target is not None]

    def reached(self, block):
        """The blocks that a block reaches, ascending; none if there is no such block."""
        found = {}
        waiting = [block] if block in self.calls else []
        while len(waiting) > 0:
            step = waiting.pop()
            if step not in found:
                found[step] = True
                waiting.extend([target for _, target in self.steps(step)])
        return sorted(found)

    def calling(self, block, wanted):
        """The call rows of the name in a block, ascending."""
        return [at for at, call in self.calls[block] if call.name == wanted]

    def lengths(self, wanted):
        """A dict from each block that has a chain to the name to the fewest rows of such a chain."""
        lengths = {block: 1 for block in self.calls if len(self.calling(block, wanted)) > 0}
        steps = {block: once([target for _, target in self.steps(block)]) for block in self.calls}
        length = 1
        fresh = list(lengths)
        while len(fresh) > 0:
            length += 1
            others = [block for block in steps if block not in lengths]
            fresh = [block for block in others if any([target in lengths for target in steps[block]])]
            for block in fresh:
                lengths[block] = length
        return lengths


def goes_to(units, unit, name):
    """The block to which a call row of the name in a block of the unit goes; None if it leaves the client."""
    return Blocks(units).target(unit, name)


def reached(units, unit, name):
    """The blocks that a block reaches, ascending; none if there is no such block."""
    return Blocks(units).reached((unit, name))


def leaving(units, unit, name):
    """The (name, written tag) of the call rows in reached blocks that leave the client, ascending."""
    blocks = Blocks(units)
    pairs = []
    for block in blocks.reached((unit, name)):
        calls = [call for _, call in blocks.calls[block] if blocks.target(block[0], call.name) is None]
        pairs.extend([(call.name, call.tag) for call in calls])
    return ascending(pairs)


def chain(units, unit, name, wanted):
    """The least of the shortest chains of call rows from a block to a name, or None."""
    blocks = Blocks(units)
    lengths = blocks.lengths(wanted)
    block = (unit, name)
    if block not in lengths:
        return None
    rows = []
    while lengths[block] > 1:
        nearer = [(at, target) for at, target in blocks.steps(block) if lengths.get(target, 0) == lengths[block] - 1]
        at, target = nearer[0]
        rows.append((block[0], block[1], at))
        block = target
    return rows + [(block[0], block[1], blocks.calling(block, wanted)[0])]
