"""Mends once more, over the lines of texts, and mends by chance."""

import re

KINDS = ("edition", "number", "cell", "wants")
NAME = "[a-z][a-z0-9]{0,11}"
FORMS = (f"forward {NAME} {NAME}", f"(guard|open|hide|number|cell|first|wants|unwants) {NAME}", f"member {NAME} [0-9]",
         f"default {NAME} [1-9]")


class Unknown(Exception):
    pass


def is_mend_by_words(line):
    return isinstance(line, str) and any(re.fullmatch(form, line) for form in FORMS)


def block_at(lines, words):
    """The beginning and the end of the first block whose head line begins with these words and has this tag."""
    for at, line in enumerate(lines):
        told = line.split(" ")
        tag = told[4] if len(told) > 3 and told[0] == "routine" else "0"
        if told[0] == words[0] and told[1] == words[1] and (told[0] == "first" or tag == words[2]):
            end = at + 1
            while end < len(lines) and lines[end].split(" ")[0] not in ("first", "routine"):
                end += 1
            return at, end
    return None


def heads_of(lines, name):
    return [at for at, line in enumerate(lines) if line.split(" ")[:2] == ["routine", name]]


def copied_block(elder, lines, words):
    from_place = block_at(elder, words)
    if from_place is None:
        raise Unknown()
    place = block_at(lines, words) or (len(lines), len(lines))
    return lines[:place[0]] + elder[from_place[0]:from_place[1]] + lines[place[1]:]


def copied_line(elder, lines, kind, name):
    own = [line for line in elder if line.split(" ")[:2] == [kind, name]]
    if not own:
        raise Unknown()
    for at, line in enumerate(lines):
        if line.split(" ")[:2] == [kind, name]:
            return lines[:at] + own + lines[at + 1:]
    end = len([line for line in lines if line.split(" ")[0] in KINDS[:KINDS.index(kind) + 1]])
    return lines[:end] + own + lines[end:]


def mended_lines(elder, lines, mend):
    """The lines behind a mend; raises Unknown."""
    word, name, *more = mend.split(" ")
    heads = heads_of(lines, name)
    if word == "forward":
        return lines + [f"routine {name} open", f"call {more[0]} it"]
    if word in ("number", "cell"):
        return copied_line(elder, lines, word, name)
    if word in ("member", "first"):
        return copied_block(elder, lines, ["routine" if word == "member" else "first", name] + more)
    if word == "wants":
        end = len([line for line in lines if line.split(" ")[0] in KINDS])
        return lines[:end] + [f"wants {name}"] + lines[end:]
    if word == "unwants":
        if mend[2:] not in lines:
            raise Unknown()
        at = lines.index(mend[2:])
        return lines[:at] + lines[at + 1:]
    lines = list(lines)
    if word == "default":
        if not any(lines[at].split(" ")[4:5] == more for at in heads):
            raise Unknown()
        for at in heads:
            plain = lines[at].removesuffix(" default")
            lines[at] = plain + " default" if plain.split(" ")[4:5] == more else plain
        return lines
    if not heads:
        raise Unknown()
    for at in heads:
        parts = lines[at].split(" ")
        parts[2] = {"guard": "guarded", "open": "open", "hide": "hidden"}[word]
        lines[at] = " ".join(parts)
    return lines


def some_mend(chance, elder, newer):
    """A mend by chance, often of names that the editions have."""
    names = [member.name for member in elder.members + newer.members] + list(elder.wants + newer.wants)
    names += [first.name for first in elder.firsts + newer.firsts] + ["f", "none"]
    word = chance.choice(("forward", "guard", "open", "hide", "number", "cell", "member", "member", "first", "default",
                          "wants", "unwants"))
    if word in ("number", "cell"):
        names = list(elder.numbers) + list(newer.numbers) + list(elder.cells) + list(newer.cells) + ["none"]
    name = chance.choice(names)
    if word == "forward":
        return f"forward {name} {chance.choice(names)}"
    if word in ("member", "default"):
        members = elder.members if word == "member" else newer.members
        tags = [member.tag for member in members if member.name == name] + [1]
        tag = chance.choice(tags)
        return f"{word} {name} {tag or (0 if word == 'member' else 1)}"
    return f"{word} {name}"
