"""The lines of texts: each by itself (1.1, 1.8), and as declarations and blocks of rows."""

from quietedition.errors import BadText
from quietedition.rows import Call, End, Put, Same, Tell, There
from quietedition.words import is_name, is_numeral, is_tag, value_of

ACCESSES = ("open", "guarded", "hidden")
CELL_ACCESSES = ("open", "hidden")

# What is wrong with a word that does not fit the slot where it stands.
CAUSES = {"NAME": "name", "N": "number", "K": "number", "T": "number", "V": "value", "P": "value"}


def fits(word, slot):
    """Whether a word that belongs to the form of its line stands at its place; other slots take any word."""
    if slot == "ACCESS":
        return word in ACCESSES
    if slot == "LOCK":
        return word in CELL_ACCESSES
    return slot in CAUSES or word == slot


def stretched(form, count):
    """The slots of a form for so many words: two dots repeat the slot ahead of them."""
    if form[-1] != "..":
        return form
    return form[:-1] + form[-2:-1] * (count + 1 - len(form))


class Grammar:
    """The lines that one kind of text may have.

    `order` has the first words that may stand in each part of the text, the rows of blocks last;
    `forms` has each form of a line, with its slots in capital letters.
    """

    def __init__(self, order, forms, value_kinds, place_kinds):
        self.ranks = {head: rank for rank, heads in enumerate(order) for head in heads.split(" ")}
        self.block_rank = len(order) - 2
        self.forms = {}
        for form in forms:
            slots = form.split(" ")
            self.forms.setdefault(slots[0], []).append(slots)
        self.kinds = {"V": tuple(value_kinds), "P": tuple(place_kinds)}

    def parse(self, text):
        """The lines of the text, each as a list of its words, with values, numbers and tags as data."""
        if not isinstance(text, str):
            raise BadText(-1, "words")
        lines = []
        rank = 0
        for at, line in enumerate(text.split("\n")):
            words = line.split(" ")
            if "" in words:
                raise BadText(at, "words")
            if not self.may_stand(words[0], at, rank):
                raise BadText(at, "head")
            lines.append(self.parts(words, at))
            rank = min(self.ranks[words[0]], self.block_rank)
        return lines

    def may_stand(self, head, at, rank):
        """Whether a line may begin with this word behind lines of that rank."""
        own = self.ranks.get(head, -1)
        if at == 0 or own <= 0:
            return at == 0 and own == 0
        if own > self.block_rank:
            return rank == self.block_rank
        return own >= rank

    def slots(self, words):
        """The slots of the form that the words have, or None."""
        for form in self.forms[words[0]]:
            slots = stretched(form, len(words))
            if len(slots) == len(words) and all([fits(word, slot) for word, slot in zip(words, slots)]):
                return slots
        return None

    def parts(self, words, at):
        """The words of a line as data."""
        slots = self.slots(words)
        if slots is None:
            raise BadText(at, "count")
        parts = []
        for word, slot in zip(words, slots):
            part = self.part(word, slot)
            if part is None:
                raise BadText(at, CAUSES[slot])
            parts.append(part)
        return parts

    def part(self, word, slot):
        """The word as data, or None if it is wrong for its slot."""
        if slot == "NAME":
            return word if is_name(word) else None
        if slot == "N" or slot == "K":
            return int(word) if is_numeral(word) else None
        if slot == "T":
            return int(word) if is_tag(word) else None
        if slot in self.kinds:
            value = value_of(word)
            return value if value is not None and value[0] in self.kinds[slot] else None
        return word


def row_of(parts):
    """The row that the words of a line are."""
    head = parts[0]
    if head == "tell":
        return Tell(parts[1])
    if head == "set":
        return Put(parts[1], parts[2])
    if head == "same":
        return Same(parts[1], parts[2], parts[4])
    if head == "there":
        return There(parts[1], parts[3])
    if head == "call":
        return Call(parts[1], parts[2], parts[4] if len(parts) > 3 else 0)
    return End()


def sections(lines, heads):
    """The lines ahead of the blocks as pairs (line, parts), and the blocks as (line, parts of the head, rows).

    A block begins at a line whose first word is one of the heads; its rows stand in the lines behind it.
    """
    ahead = []
    blocks = []
    for at, parts in enumerate(lines):
        if parts[0] in heads:
            blocks.append((at, parts, []))
        elif len(blocks) > 0:
            blocks[-1][2].append(row_of(parts))
        else:
            ahead.append((at, parts))
    return ahead, blocks


def of_kind(ahead, head):
    """Those of the lines ahead of the blocks that begin with this word."""
    return [(at, parts) for at, parts in ahead if parts[0] == head]


def check_declared(declared, most):
    """Raises BadText if the triples (line, name, count) count too many, or if two of them have the same name."""
    total = 0
    seen = {}
    for at, name, count in declared:
        total += count
        if total > most:
            raise BadText(at, "many")
        if name in seen:
            raise BadText(at, "twice")
        seen[name] = True


def is_wrong_skip(row, behind):
    """Whether the row skips no row, or more rows than stand behind it in its block."""
    return isinstance(row, (Same, There)) and (row.skip < 1 or row.skip > behind)
