"""What is checked of an edition's text: its lines (1.8), the lines against each other (1.9), the whole (1.10)."""

from quietedition.errors import BadText
from quietedition.lines import Grammar, check_declared, is_wrong_skip, of_kind, sections
from quietedition.rows import Call

ORDER = ("edition", "number", "cell", "wants", "first routine", "tell set same call end")
FORMS = (
    "edition NAME",
    "number NAME N",
    "cell NAME LOCK N",
    "cell NAME LOCK N N",
    "wants NAME",
    "first NAME",
    "first NAME after NAME ..",
    "routine NAME ACCESS",
    "routine NAME ACCESS at T",
    "routine NAME ACCESS at T default",
    "tell V",
    "set P V",
    "same V V else K",
    "call NAME V",
    "call NAME V at T",
    "end",
)
VALUE_KINDS = ("number", "argument", "place", "named")
PLACE_KINDS = ("place",)

MOST_NUMBERS = 3
MOST_PLACES = 2
MOST_WANTS = 2
MOST_FIRSTS = 2
MOST_ROUTINES = 4
MOST_ROWS = 8
MOST_WORK = 100


def tag_of(parts):
    """The tag of the block with this head line; 0 for a first block and an untagged member."""
    return parts[4] if parts[0] == "routine" and len(parts) > 3 else 0


def says_default(parts):
    """Whether the head line of a routine declares a default member."""
    return len(parts) == 6


def check_ahead(ahead):
    """Raises BadText for the first line ahead of the blocks that is wrong against the whole text."""
    check_declared([(at, parts[1], 1) for at, parts in of_kind(ahead, "number")], MOST_NUMBERS)
    check_declared([(at, parts[1], len(parts) - 3) for at, parts in of_kind(ahead, "cell")], MOST_PLACES)
    check_declared([(at, parts[1], 1) for at, parts in of_kind(ahead, "wants")], MOST_WANTS)


def first_fault(parts, rows, earlier, firsts):
    """The cause for which the head line of a first block is refused, or an empty string."""
    names = [other[1] for other in earlier if other[0] == "first"]
    if len(names) >= MOST_FIRSTS:
        return "many"
    if parts[1] in names:
        return "twice"
    if len(rows) == 0:
        return "empty"
    if any([name not in firsts for name in parts[3:]]):
        return "after"
    return ""


def routine_fault(parts, rows, earlier, wants):
    """The cause for which the head line of a routine is refused, or an empty string."""
    routines = [other for other in earlier if other[0] == "routine"]
    namesakes = [other for other in routines if other[1] == parts[1]]
    tags = [tag_of(other) for other in namesakes]
    if len(routines) >= MOST_ROUTINES:
        return "many"
    if tag_of(parts) in tags:
        return "twice"
    if len(tags) > 0 and (tag_of(parts) == 0 or 0 in tags):
        return "mixed"
    if says_default(parts) and any([says_default(other) for other in namesakes]):
        return "default"
    if parts[1] in wants:
        return "wanted"
    return "empty" if len(rows) == 0 else ""


class Sheet:
    """What the lines of an edition's text declare, for the checks of its rows."""

    def __init__(self, ahead, blocks):
        self.numbers = [parts[1] for _, parts in of_kind(ahead, "number")]
        self.sizes = {parts[1]: len(parts) - 3 for _, parts in of_kind(ahead, "cell")}
        self.wants = [parts[1] for _, parts in of_kind(ahead, "wants")]
        self.firsts = [parts[1] for at, parts, rows in blocks if parts[0] == "first"]
        self.routines = [parts for at, parts, rows in blocks if parts[0] == "routine"]

    def has_value(self, value):
        """Whether the number or the place of a value is declared; other values always are."""
        if value[0] == "named":
            return value[1] in self.numbers
        if value[0] == "place":
            return value[2] < self.sizes.get(value[1], 0)
        return True

    def has_called(self, call):
        """Whether a call row names a wanted name without a tag, or a member that it reaches."""
        if call.tag == 0 and call.name in self.wants:
            return True
        namesakes = [parts for parts in self.routines if parts[1] == call.name]
        if any([tag_of(parts) == call.tag for parts in namesakes]):
            return True
        return call.tag == 0 and any([says_default(parts) for parts in namesakes])

    def head_fault(self, parts, rows, earlier):
        """The cause for which a head line is refused behind the earlier ones, or an empty string."""
        if parts[0] == "first":
            return first_fault(parts, rows, earlier, self.firsts)
        return routine_fault(parts, rows, earlier, self.wants)

    def row_fault(self, rows, index, has_argument):
        """The cause for which a row of a block is refused, or an empty string."""
        row = rows[index]
        if index >= MOST_ROWS:
            return "many"
        for value in row.operands():
            if not self.has_value(value):
                return "unknown"
            if value[0] == "argument" and not has_argument:
                return "argument"
        if isinstance(row, Call) and not self.has_called(row):
            return "unknown"
        return "skip" if is_wrong_skip(row, len(rows) - 1 - index) else ""

    def check_rows(self, at, parts, rows):
        """Raises BadText for the first wrong row of the block with its head line at `at`."""
        has_argument = parts[0] == "routine"
        for index, row in enumerate(rows):
            cause = self.row_fault(rows, index, has_argument)
            if cause != "":
                raise BadText(at + 1 + index, cause)
            if isinstance(row, Call):
                has_argument = False


def edition_sections(text):
    """The lines ahead of the blocks, and the blocks, of an edition's text whose lines are all right."""
    lines = Grammar(ORDER, FORMS, VALUE_KINDS, PLACE_KINDS).parse(text)
    ahead, blocks = sections(lines, ("first", "routine"))
    check_ahead(ahead)
    sheet = Sheet(ahead, blocks)
    earlier = []
    for at, parts, rows in blocks:
        cause = sheet.head_fault(parts, rows, earlier)
        if cause != "":
            raise BadText(at, cause)
        sheet.check_rows(at, parts, rows)
        earlier.append(parts)
    return ahead, blocks


def steps_of(edition):
    """For each block (word, name, tag): the members that it calls, or the first blocks that it needs."""
    steps = {}
    for first in edition.firsts:
        steps[("first", first.name, 0)] = [("first", name, 0) for name in first.after]
    for member in edition.members:
        called = edition.called(member)
        steps[("routine", member.name, member.tag)] = [("routine", other.name, other.tag) for other in called]
    return steps


def is_on_ring(block, steps):
    """Whether one or more steps lead from the block to itself."""
    found = {}
    waiting = list(steps[block])
    while len(waiting) > 0:
        step = waiting.pop()
        if step not in found:
            found[step] = True
            waiting.extend(steps[step])
    return block in found


def check_whole(edition, blocks):
    """Raises BadText if blocks of the edition form a ring, or if one of them has too much work."""
    steps = steps_of(edition)
    for at, parts, rows in blocks:
        if is_on_ring((parts[0], parts[1], tag_of(parts)), steps):
            raise BadText(at, "ring")
    for block, section in zip(edition.blocks, blocks):
        if edition.work(block) > MOST_WORK:
            raise BadText(section[0], "long")
