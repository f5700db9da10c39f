"""Drafts: the text of a newer edition, changed by mends (10.7, 10.8)."""

from quietedition.editions import Edition, Member
from quietedition.errors import BadMend, BadText
from quietedition.rows import Call
from quietedition.scope import head_of
from quietedition.words import is_index, is_name, is_tag

def is_exact(member, name, tag):
    """Whether the member has that name and real tag."""
    return member.name == name and member.tag == tag


def with_blocks(made, blocks):
    """The edition with other blocks."""
    return Edition(made.name, made.numbers, made.cells, made.wants, blocks)


def with_block(made, block):
    """The edition with a block in the place of its first one that is told alike, otherwise at the end."""
    blocks = list(made.blocks)
    places = [at for at, other in enumerate(blocks) if head_of(other) == head_of(block)]
    if len(places) == 0:
        return with_blocks(made, blocks + [block])
    blocks[places[0]] = block
    return with_blocks(made, blocks)


def with_access(made, name, access):
    """The edition with another access of all members of the name; None if it has none."""
    if name not in [member.name for member in made.members]:
        return None
    return with_blocks(made, [Member(name, access, block.tag, block.is_default, block.rows)
                              if isinstance(block, Member) and block.name == name else block for block in made.blocks])


# Each of the functions below applies one kind of mend: it takes the elder edition, the newer one as it stands and
# the words behind the first one, and returns the edition that comes out, or None if the mend names something that
# is not there.

def forwarded(elder, made, words):
    """With a routine that hands its argument on to another one."""
    row = Call(words[1], ("argument",))
    return with_blocks(made, list(made.blocks) + [Member(words[0], "open", 0, False, [row])])


def guarded(elder, made, words):
    """With all members of a name guarded."""
    return with_access(made, words[0], "guarded")


def opened(elder, made, words):
    """With all members of a name open."""
    return with_access(made, words[0], "open")


def hidden(elder, made, words):
    """With all members of a name hidden."""
    return with_access(made, words[0], "hidden")


def with_number(elder, made, words):
    """With the elder edition's number of a name."""
    if words[0] not in elder.numbers:
        return None
    numbers = dict(made.numbers)
    numbers[words[0]] = elder.numbers[words[0]]
    return Edition(made.name, numbers, made.cells, made.wants, made.blocks)


def with_cell(elder, made, words):
    """With the elder edition's cell of a name."""
    if words[0] not in elder.cells:
        return None
    cells = dict(made.cells)
    cells[words[0]] = elder.cells[words[0]]
    return Edition(made.name, made.numbers, cells, made.wants, made.blocks)


def with_member(elder, made, words):
    """With the elder edition's member of a name and real tag."""
    members = [member for member in elder.members if is_exact(member, words[0], int(words[1]))]
    return with_block(made, members[0]) if len(members) > 0 else None


def with_first(elder, made, words):
    """With the elder edition's first block of a name."""
    firsts = [first for first in elder.firsts if first.name == words[0]]
    return with_block(made, firsts[0]) if len(firsts) > 0 else None


def with_default(elder, made, words):
    """With the member of a name and real tag as the only default one of its name."""
    name, tag = words[0], int(words[1])
    if not any([is_exact(member, name, tag) for member in made.members]):
        return None
    return with_blocks(made, [Member(name, block.access, block.tag, block.tag == tag, block.rows)
                              if isinstance(block, Member) and block.name == name else block for block in made.blocks])


def with_wanted(elder, made, words):
    """With one more wanted name."""
    return Edition(made.name, made.numbers, made.cells, made.wants + (words[0],), made.blocks)


def without_wanted(elder, made, words):
    """Without the first line that wants a name."""
    if words[0] not in made.wants:
        return None
    wants = list(made.wants)
    wants.remove(words[0])
    return Edition(made.name, made.numbers, made.cells, wants, made.blocks)


ACTIONS = {
    "forward": forwarded,
    "guard": guarded,
    "open": opened,
    "hide": hidden,
    "number": with_number,
    "cell": with_cell,
    "member": with_member,
    "first": with_first,
    "default": with_default,
    "wants": with_wanted,
    "unwants": without_wanted,
}

# What stands behind the first word of each mend: names, a digit D, a digit T other than 0.
FORMS = {
    "forward": ("NAME", "NAME"),
    "guard": ("NAME",),
    "open": ("NAME",),
    "hide": ("NAME",),
    "number": ("NAME",),
    "cell": ("NAME",),
    "member": ("NAME", "D"),
    "first": ("NAME",),
    "default": ("NAME", "T"),
    "wants": ("NAME",),
    "unwants": ("NAME",),
}


def fits(word, slot):
    """Whether a word may stand at its place in a mend."""
    if slot == "NAME":
        return is_name(word)
    return is_index(word) if slot == "D" else is_tag(word)


def is_mend(line):
    """Whether any value is a line that has one of the forms of a mend."""
    if not isinstance(line, str):
        return False
    words = line.split(" ")
    if words[0] not in FORMS or len(words) != len(FORMS[words[0]]) + 1:
        return False
    return all([fits(word, slot) for word, slot in zip(words[1:], FORMS[words[0]])])


class Draft:
    """A newer edition while mends change it; its text need not be right in between."""

    def __init__(self, elder, newer):
        self.elder = elder
        self.newer = newer
        self._made = newer
        self._lines = []

    @property
    def applied(self):
        """The mends that were applied, in order."""
        return tuple(self._lines)

    def apply(self, line):
        """Applies a mend; raises BadMend."""
        if not is_mend(line):
            raise BadMend(len(self._lines), "words")
        words = line.split(" ")
        action = ACTIONS[words[0]]
        made = action(self.elder, self._made, words[1:])
        if made is None:
            raise BadMend(len(self._lines), "unknown")
        self._made = made
        self._lines.append(line)

    def text(self):
        """The text as it stands."""
        return self._made.text()

    def edition(self):
        """The edition that is read from the text; raises BadMend."""
        try:
            return Edition.read(self.text())
        except BadText as wrong:
            raise BadMend(len(self._lines), wrong.cause) from wrong
