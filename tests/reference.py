"""The machine once more, straight from the words of part 5: recursive, over the texts of units and editions."""

from quietedition.rows import Call, End, Put, Same, Tell, There


class Ended(Exception):
    pass


class Reference:
    """A run of a client that no stage refuses."""

    def __init__(self, client, world, limit):
        self.units = sorted(client.units, key=lambda unit: unit.name)
        self.world = world
        self.limit = limit
        self.values = {place: value for place, value in zip(world.loaded.places(), world.loaded.first_values())}
        self.own = {unit.name: dict(unit.cells) for unit in self.units}
        self.told = []

    def events(self):
        try:
            self.all_blocks()
            self.told.append(("end", "plain"))
        except Ended as ended:
            self.told.append(("end", ended.args[0]))
        return self.told

    def all_blocks(self):
        edition = self.world.loaded
        taken = []
        while len(taken) < len(edition.firsts):
            first = [part for part in edition.firsts if part.name not in taken and set(part.after) <= set(taken)][0]
            taken.append(first.name)
            self.told.append(("first", first.name))
            self.library_block(first.rows, None)
            self.told.append(("home",))
        for unit in self.units:
            for block in unit.blocks:
                if block.kind == "start":
                    self.client_block(unit, block, None)

    def given(self, name):
        return [unit for unit in self.units if name in unit.shared()]

    def library_value(self, value, argument):
        if value[0] == "number":
            return value[1]
        if value[0] == "named":
            return self.world.loaded.numbers[value[1]]
        return argument if value[0] == "argument" else self.values[value[1:]]

    def library_block(self, rows, argument):
        at = 0
        while at < len(rows) and not isinstance(rows[at], End):
            row = rows[at]
            at += 1
            got = [self.library_value(value, argument) for value in row.operands() if not (
                isinstance(row, Put) and value is row.place)]
            if isinstance(row, Tell):
                self.told.append(("tell", "edition", got[0]))
            elif isinstance(row, Put):
                self.values[row.place[1:]] = self.library_value(row.value, argument)
            elif isinstance(row, Same):
                at += row.skip if got[0] != got[1] else 0
            else:
                self.library_call(row, got[0])

    def library_call(self, row, n):
        edition = self.world.loaded
        member = edition.member(row.name, row.tag)
        if member is None or (member.access == "open" and self.given(row.name)):
            self.told.append(("out", row.name, n))
            unit = self.given(row.name)[0]
            self.client_block(unit, unit.block(row.name), n)
            self.told.append(("done",))
        else:
            self.library_block(member.rows, n)

    def client_value(self, unit, value, argument):
        if value[0] == "place":
            self.told.append(("read",) + value[1:])
            return self.values[value[1:]]
        if value[0] == "own":
            return self.own[unit.name][value[1]]
        if value[0] == "named":
            return self.world.assembled.numbers[value[1]]
        return argument if value[0] == "argument" else value[1]

    def client_block(self, unit, block, argument):
        at = 0
        while at < len(block.rows):
            if self.limit == 0:
                raise Ended("long")
            self.limit -= 1
            row = block.rows[at]
            at += 1
            if isinstance(row, End):
                return
            if isinstance(row, There):
                is_there = self.given(row.name) or row.name in self.world.loaded.offers()
                at += 0 if is_there else row.skip
            elif isinstance(row, Same):
                left = self.client_value(unit, row.left, argument)
                at += row.skip if left != self.client_value(unit, row.right, argument) else 0
            else:
                self.client_act(unit, row, self.client_value(unit, row.value, argument))

    def client_act(self, unit, row, n):
        if isinstance(row, Tell):
            self.told.append(("tell", "client", n))
        elif isinstance(row, Put) and row.place[0] == "own":
            self.own[unit.name][row.place[1]] = n
        elif isinstance(row, Put):
            self.values[row.place[1:]] = n
            self.told.append(("write",) + row.place[1:] + (n,))
        else:
            assert isinstance(row, Call)
            self.client_call(unit, row, n)

    def client_call(self, unit, row, n):
        if unit.block(row.name) is not None:
            self.client_block(unit, unit.block(row.name), n)
        elif self.given(row.name):
            other = self.given(row.name)[0]
            self.client_block(other, other.block(row.name), n)
        else:
            noted = self.world.linked.visible(row.name, row.tag)
            member = None if noted is None else self.world.loaded.visible(row.name, noted.tag)
            if member is None:
                raise Ended(f"lost {row.name}")
            self.told.append(("into", row.name, member.tag, n))
            self.library_block(member.rows, n)
            self.told.append(("home",))
