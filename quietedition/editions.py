"""Editions of a library (1.5 to 1.10)."""

from quietedition.edition_lines import check_whole, edition_sections, says_default, tag_of
from quietedition.lines import of_kind
from quietedition.lists import ascending
from quietedition.rows import Call, block_lines


class First:
    """A first block: it runs when a client is loaded, behind the first blocks that it needs."""

    def __init__(self, name, after, rows):
        self.name = name
        self.after = tuple(after)
        self.rows = tuple(rows)

    def head(self):
        """The head line."""
        return " ".join(["first", self.name] + (["after"] if len(self.after) > 0 else []) + list(self.after))

    def __eq__(self, other):
        return (isinstance(other, First) and self.name == other.name and self.after == other.after
                and self.rows == other.rows)


class Member:
    """A routine of an edition; its tag is 0 if it is untagged."""

    def __init__(self, name, access, tag, is_default, rows):
        self.name = name
        self.access = access
        self.tag = tag
        self.is_default = is_default
        self.rows = tuple(rows)

    def head(self):
        """The head line."""
        line = f"routine {self.name} {self.access}"
        if self.tag == 0:
            return line
        return f"{line} at {self.tag} default" if self.is_default else f"{line} at {self.tag}"

    def __eq__(self, other):
        return (isinstance(other, Member) and self.name == other.name and self.access == other.access
                and self.tag == other.tag and self.is_default == other.is_default and self.rows == other.rows)


def block_of(parts, rows):
    """The block with this head line and these rows."""
    if parts[0] == "first":
        return First(parts[1], parts[3:], rows)
    return Member(parts[1], parts[2], tag_of(parts), says_default(parts), rows)


class Edition:
    """One edition of a library, made from parts that a text could have; nothing is checked."""

    def __init__(self, name, numbers, cells, wants, blocks):
        self.name = name
        self.numbers = dict(numbers)
        self.cells = {cell: (access, tuple(integers)) for cell, (access, integers) in cells.items()}
        self.wants = tuple(wants)
        self.blocks = tuple(blocks)
        self.firsts = tuple([block for block in self.blocks if isinstance(block, First)])
        self.members = tuple([block for block in self.blocks if isinstance(block, Member)])

    @classmethod
    def read(cls, text):
        """The edition that the text writes; raises BadText."""
        ahead, blocks = edition_sections(text)
        numbers = {parts[1]: parts[2] for _, parts in of_kind(ahead, "number")}
        cells = {parts[1]: (parts[2], parts[3:]) for _, parts in of_kind(ahead, "cell")}
        wants = [parts[1] for _, parts in of_kind(ahead, "wants")]
        made = cls(ahead[0][1][1], numbers, cells, wants, [block_of(parts, rows) for _, parts, rows in blocks])
        check_whole(made, blocks)
        return made

    def text(self):
        """The text of the edition."""
        lines = [f"edition {self.name}"]
        for name, number in self.numbers.items():
            lines.append(f"number {name} {number}")
        for name, (access, integers) in self.cells.items():
            lines.append(" ".join(["cell", name, access] + [str(integer) for integer in integers]))
        for name in self.wants:
            lines.append(f"wants {name}")
        return "\n".join(lines + block_lines(self.blocks))

    def __str__(self):
        return str(self.text())

    def __eq__(self, other):
        return isinstance(other, Edition) and self.text() == other.text()

    def member(self, name, tag=0):
        """The member that the name and the tag reach, or None."""
        for member in self.members:
            if member.name == name and (member.tag == tag or (tag == 0 and member.is_default)):
                return member
        return None

    def visible(self, name, tag=0):
        """The member that the name and the tag reach if it is visible, otherwise None."""
        member = self.member(name, tag)
        return None if member is None or member.access == "hidden" else member

    def offers(self):
        """The names of visible members, ascending."""
        return ascending([member.name for member in self.members if member.access != "hidden"])

    def called(self, block):
        """The members that the call rows of a block reach, in the order of the rows."""
        calls = [row for row in block.rows if isinstance(row, Call)]
        reached = [self.member(call.name, call.tag) for call in calls]
        return [member for member in reached if member is not None]

    def entries(self):
        """The wanted names and the names of open members that are called, ascending."""
        names = list(self.wants)
        for block in self.blocks:
            names.extend([member.name for member in self.called(block) if member.access == "open"])
        return ascending(names)

    def written(self):
        """The integers that are values of rows, ascending."""
        values = [value for block in self.blocks for row in block.rows for value in row.operands()]
        integers = [value[1] for value in values if value[0] == "number"]
        named = [self.numbers[value[1]] for value in values if value[0] == "named"]
        return ascending(integers + named)

    def places(self):
        """The places (cell, index) in the order of the cells."""
        return [(cell, index) for cell, (_, integers) in self.cells.items() for index in range(len(integers))]

    def first_values(self):
        """The first integers of the places, in the order of `places`."""
        return [integer for _, integers in self.cells.values() for integer in integers]

    def work(self, block):
        """The number of rows of a block and of the members that it calls, each as often as it is called."""
        return len(block.rows) + sum([self.work(member) for member in self.called(block)])
