"""Patterns of tuples of integers (6.1 to 6.5)."""

from quietedition.lists import once


def fresh(count, taken):
    """So many integers from 0 on, the least ones that are not taken."""
    return [n for n in range(count + len(taken)) if n not in taken][:count]


def pattern(values, kept):
    """The pattern of the values."""
    classes = {}
    entries = []
    for value in values:
        if value in kept:
            entries.append(("kept", value))
        else:
            entries.append(("new", classes.setdefault(value, len(classes))))
    return tuple(entries)


def count_classes(entries):
    """The number of classes of a pattern."""
    return max([entry[1] + 1 for entry in entries if entry[0] == "new"], default=0)


def realise(entries, kept):
    """The least integers that have the pattern."""
    others = fresh(count_classes(entries), kept)
    return tuple([entry[1] if entry[0] == "kept" else others[entry[1]] for entry in entries])


def choices(values, kept):
    """What somebody has to choose from who hands an integer on at these values."""
    others = once([value for value in values if value not in kept])
    return sorted(kept) + others + fresh(1, list(kept) + others)


def entries_behind(entries, kept):
    """The entries that may stand behind the ones of a pattern, ascending."""
    return [("kept", n) for n in sorted(kept)] + [("new", i) for i in range(count_classes(entries) + 1)]


def all_patterns(length, kept):
    """Yields all patterns of the length, ascending."""
    level = [()]
    for _ in range(length):
        level = [entries + (entry,) for entries in level for entry in entries_behind(entries, kept)]
    for entries in level:
        yield entries


def is_entry(thing, before, kept):
    """Whether the thing may stand behind the entries of a pattern."""
    if not isinstance(thing, tuple) or len(thing) != 2:
        return False
    # True and False are equal to 1 and 0, but stand for none of them.
    return not isinstance(thing[1], bool) and thing in entries_behind(before, kept)


def is_pattern(thing, length, kept):
    """Whether the thing is the pattern of some tuple of so many integers."""
    if not isinstance(thing, tuple) or len(thing) != length:
        return False
    for at in range(length):
        if not is_entry(thing[at], thing[:at], kept):
            return False
    return True


def move_pattern(entries, at, entry, kept):
    """The pattern that comes out if the integer at the index is replaced by one with this entry."""
    others = fresh(count_classes(entries) + 1, kept)
    values = list(realise(entries, kept))
    values[at] = entry[1] if entry[0] == "kept" else others[entry[1]]
    return pattern(values, kept)
