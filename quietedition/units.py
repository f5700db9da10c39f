"""Units and clients (1.11 to 1.13)."""

from quietedition.errors import BadClient, BadText
from quietedition.lines import Grammar, check_declared, is_wrong_skip, of_kind, sections
from quietedition.lists import ascending
from quietedition.rows import block_lines

ORDER = ("unit", "cell", "routine inner start", "tell set same there call end")
FORMS = (
    "unit NAME",
    "unit NAME late",
    "cell NAME N",
    "routine NAME",
    "inner NAME",
    "start",
    "tell V",
    "set P V",
    "same V V else K",
    "there NAME else K",
    "call NAME V",
    "call NAME V at T",
    "end",
)
VALUE_KINDS = ("number", "argument", "place", "own", "named")
PLACE_KINDS = ("place", "own")

MOST_CELLS = 9
MOST_BLOCKS = 20
MOST_ROWS = 600
MOST_UNITS = 4

# The first words of the head lines of blocks, by the kinds of the blocks.
HEADS = {"shared": "routine", "inner": "inner", "start": "start"}


def key_of(parts):
    """The name that a head line takes in its unit; no routine has that of a start."""
    return parts[1] if parts[0] != "start" else ""


def row_fault(rows, index, cells, has_argument):
    """The cause for which a row of a unit's block is refused, or an empty string."""
    row = rows[index]
    if index >= MOST_ROWS:
        return "many"
    for value in row.operands():
        if value[0] == "own" and value[1] not in cells:
            return "unknown"
        if value[0] == "argument" and not has_argument:
            return "argument"
    return "skip" if is_wrong_skip(row, len(rows) - 1 - index) else ""


def check_blocks(blocks, cells):
    """Raises BadText for the first line of the blocks that is wrong against the whole text (1.12)."""
    seen = {}
    for count, (at, parts, rows) in enumerate(blocks):
        if count >= MOST_BLOCKS:
            raise BadText(at, "many")
        if key_of(parts) in seen:
            raise BadText(at, "twice")
        if len(rows) == 0:
            raise BadText(at, "empty")
        seen[key_of(parts)] = True
        for index in range(len(rows)):
            cause = row_fault(rows, index, cells, parts[0] != "start")
            if cause != "":
                raise BadText(at + 1 + index, cause)


def unit_sections(text):
    """The lines ahead of the blocks, and the blocks, of a unit's text that is right."""
    lines = Grammar(ORDER, FORMS, VALUE_KINDS, PLACE_KINDS).parse(text)
    ahead, blocks = sections(lines, ("routine", "inner", "start"))
    cells = of_kind(ahead, "cell")
    check_declared([(at, parts[1], 1) for at, parts in cells], MOST_CELLS)
    check_blocks(blocks, [parts[1] for _, parts in cells])
    return ahead, blocks


class Block:
    """A shared or inner block of a unit, or its start, whose name is empty."""

    def __init__(self, kind, name, rows):
        self.kind = kind
        self.name = name
        self.rows = tuple(rows)

    def head(self):
        """The head line."""
        return HEADS[self.kind] if self.kind == "start" else f"{HEADS[self.kind]} {self.name}"

    def __eq__(self, other):
        return (isinstance(other, Block) and self.kind == other.kind and self.name == other.name
                and self.rows == other.rows)


def block_of(parts, rows):
    """The block with this head line and these rows."""
    kind = "shared" if parts[0] == "routine" else parts[0]
    return Block(kind, key_of(parts), rows)


def block_named(blocks, name):
    """The shared or inner block of that name among the blocks, or None."""
    for block in blocks:
        if block.kind != "start" and block.name == name:
            return block
    return None


class Unit:
    """One unit of a client, made from parts that a text could have; nothing is checked."""

    def __init__(self, name, is_late, cells, blocks):
        self.name = name
        self.is_late = is_late
        self.cells = dict(cells)
        self.blocks = tuple(blocks)

    @classmethod
    def read(cls, text):
        """The unit that the text writes; raises BadText."""
        ahead, blocks = unit_sections(text)
        head = ahead[0][1]
        cells = {parts[1]: parts[2] for _, parts in of_kind(ahead, "cell")}
        return cls(head[1], len(head) == 3, cells, [block_of(parts, rows) for _, parts, rows in blocks])

    def text(self):
        """The text of the unit."""
        lines = [f"unit {self.name} late" if self.is_late else f"unit {self.name}"]
        for name, integer in self.cells.items():
            lines.append(f"cell {name} {integer}")
        return "\n".join(lines + block_lines(self.blocks))

    def __str__(self):
        return str(self.text())

    def __eq__(self, other):
        return isinstance(other, Unit) and self.text() == other.text()

    def shared(self):
        """The names of the shared blocks, ascending."""
        return ascending([block.name for block in self.blocks if block.kind == "shared"])

    def block(self, name):
        """The shared or inner block of that name, or None."""
        return block_named(self.blocks, name)


class Client:
    """A client of 1 to 4 units of different names."""

    def __init__(self, units):
        if len(units) == 0:
            raise BadClient(0, 0, "many")
        if len(units) > MOST_UNITS:
            raise BadClient(MOST_UNITS, 0, "many")
        names = {}
        for at, unit in enumerate(units):
            if unit.name in names:
                raise BadClient(at, 0, "twice")
            names[unit.name] = True
        self.units = tuple(units)

    @classmethod
    def of(cls, *texts):
        """The client whose units the texts write; raises BadClient."""
        units = []
        for at, text in enumerate(texts):
            try:
                units.append(Unit.read(text))
            except BadText as wrong:
                raise BadClient(at, wrong.row, wrong.cause) from wrong
        return cls(units)

    def texts(self):
        """The texts of the units, in their order."""
        return [unit.text() for unit in self.units]

    def given(self):
        """The names of the shared blocks of all units, ascending."""
        return ascending([name for unit in self.units for name in unit.shared()])

    def __eq__(self, other):
        return isinstance(other, Client) and self.texts() == other.texts()
