"""Values as they are written (1.3), and the rows of blocks (1.4)."""


def value_text(value):
    """How a value is written."""
    kind = value[0]
    if kind == "number":
        return str(value[1])
    if kind == "argument":
        return "it"
    if kind == "place":
        return f"{value[1]}.{value[2]}"
    if kind == "own":
        return "$" + value[1]
    return "#" + value[1]


def block_lines(blocks):
    """The lines of some blocks: their head lines, each ahead of the block's rows."""
    return [line for block in blocks for line in [block.head()] + [row.text() for row in block.rows]]


class Row:
    """What every row can do; each kind of row below says how."""

    def text(self):
        """The line of the row."""
        return ""

    def operands(self):
        """The values of the row, from left to right."""
        return []

    def with_operands(self, values):
        """A row that is like this one but for its values."""
        return Row()

    def __eq__(self, other):
        return isinstance(other, Row) and self.text() == other.text()


class Tell(Row):
    """Tells an integer."""

    def __init__(self, value):
        self.value = tuple(value)

    def text(self):
        """The line of the row."""
        return f"tell {value_text(self.value)}"

    def operands(self):
        """The value."""
        return [self.value]

    def with_operands(self, values):
        """A row that tells another value."""
        return Tell(values[0])

    def __eq__(self, other):
        return isinstance(other, Tell) and self.value == other.value


class Put(Row):
    """Gives a place or an own cell an integer."""

    def __init__(self, place, value):
        self.place = tuple(place)
        self.value = tuple(value)

    def text(self):
        """The line of the row."""
        return f"set {value_text(self.place)} {value_text(self.value)}"

    def operands(self):
        """The place and the value."""
        return [self.place, self.value]

    def with_operands(self, values):
        """A row with another place and value."""
        return Put(values[0], values[1])

    def __eq__(self, other):
        return isinstance(other, Put) and self.place == other.place and self.value == other.value


class Same(Row):
    """Skips the next rows if two integers are not equal."""

    def __init__(self, left, right, skip):
        self.left = tuple(left)
        self.right = tuple(right)
        self.skip = skip

    def text(self):
        """The line of the row."""
        return f"same {value_text(self.left)} {value_text(self.right)} else {self.skip}"

    def operands(self):
        """The two values."""
        return [self.left, self.right]

    def with_operands(self, values):
        """A row that compares two other values."""
        return Same(values[0], values[1], self.skip)

    def __eq__(self, other):
        return (isinstance(other, Same) and self.left == other.left and self.right == other.right
                and self.skip == other.skip)


class There(Row):
    """Skips the next rows if a name is not there."""

    def __init__(self, name, skip):
        self.name = name
        self.skip = skip

    def text(self):
        """The line of the row."""
        return f"there {self.name} else {self.skip}"

    def operands(self):
        """No values."""
        return []

    def with_operands(self, values):
        """An equal row, as it has no values."""
        return There(self.name, self.skip)

    def __eq__(self, other):
        return isinstance(other, There) and self.name == other.name and self.skip == other.skip


class Call(Row):
    """Calls a routine with an integer; the tag is 0 if none is written."""

    def __init__(self, name, value, tag=0):
        self.name = name
        self.value = tuple(value)
        self.tag = tag

    def text(self):
        """The line of the row."""
        line = f"call {self.name} {value_text(self.value)}"
        return line if self.tag == 0 else f"{line} at {self.tag}"

    def operands(self):
        """The value that is passed."""
        return [self.value]

    def with_operands(self, values):
        """A row that passes another value."""
        return Call(self.name, values[0], self.tag)

    def __eq__(self, other):
        return (isinstance(other, Call) and self.name == other.name and self.value == other.value
                and self.tag == other.tag)


class End(Row):
    """Ends the block."""

    def text(self):
        """The line of the row."""
        return "end"

    def operands(self):
        """No values."""
        return []

    def with_operands(self, values):
        """An equal row, as it has no values."""
        return End()

    def __eq__(self, other):
        return isinstance(other, End)
