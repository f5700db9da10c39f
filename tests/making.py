"""Editions and clients for tests: from lines, and by chance from a seed."""

from quietedition.assembling import assemble_all
from quietedition.editions import Edition
from quietedition.errors import BadText, QuietError
from quietedition.linking import link
from quietedition.loading import load
from quietedition.units import Client

NAMES = ("f", "g", "h", "w", "x")
ACCESSES = ("open", "open", "guarded", "hidden")


def edition(*lines):
    """The edition e with these lines."""
    return Edition.read("\n".join(("edition e",) + lines))


def unit(*lines):
    """The text of the unit u with these lines."""
    return "\n".join(("unit u",) + lines)


def linked_by(elder, *texts):
    """The client of these texts, assembled and linked with an edition."""
    return link(assemble_all(Client.of(*texts), elder), elder)


def image_by(elder, *texts):
    """The image of the client of these texts in an edition."""
    return load(linked_by(elder, *texts), elder)


def refusal(action, *arguments):
    """What the action raises, as a tuple of its class name and its fields, or None."""
    try:
        action(*arguments)
    except QuietError as error:
        return (type(error).__name__,) + tuple(vars(error).values())
    return None


def some_value(chance, places, numbers, others):
    kinds = ["number", "number"] + ["place"] * (2 if places else 0) + ["named"] * (1 if numbers else 0) + others
    kind = chance.choice(kinds)
    if kind == "number":
        return str(chance.randrange(3))
    if kind == "place":
        return chance.choice(places)
    return "#" + chance.choice(numbers) if kind == "named" else kind


def some_row(chance, places, numbers, others, called):
    """One row; the numbers behind `else` are 1."""
    words = ["tell", "tell", "same", "end"] + ["set"] * (2 if places else 0) + ["call"] * (2 if called else 0)
    word = chance.choice(words)
    told = [some_value(chance, places, numbers, others) for _ in range(2)]
    if word == "set":
        return f"set {chance.choice(places)} {told[0]}"
    if word == "same":
        return f"same {told[0]} {told[1]} else 1"
    if word == "call":
        return f"call {chance.choice(called).replace(' ', f' {told[0]} ', 1)}"
    return f"tell {told[0]}" if word == "tell" else "end"


def some_text(chance, name, most_rows):
    """The text of an edition that may be wrong."""
    lines = [f"edition {name}"]
    numbers = chance.sample(("most", "least"), chance.choice((0, 1, 1, 2)))
    lines.extend(f"number {number} {chance.randrange(3)}" for number in numbers)
    places = []
    for cell in chance.sample(("box", "can"), chance.choice((0, 1, 1, 2))):
        size = chance.choice((1, 1, 2))
        lines.append(" ".join(["cell", cell, chance.choice(("open", "hidden"))] + [str(chance.randrange(3))] * size))
        places.extend(f"{cell}.{at}" for at in range(size))
    wants = chance.sample(NAMES, chance.choice((0, 0, 1, 2)))
    lines.extend(f"wants {want}" for want in wants)
    heads = []
    called = [f"{want} " for want in wants]
    for _ in range(chance.randrange(5)):
        routine = chance.choice(NAMES)
        tag = chance.choice(("", "", " at 1", " at 2", " at 1 default", " at 2 default"))
        heads.append(f"routine {routine} {chance.choice(ACCESSES)}{tag}")
        called.append(f"{routine} " + (tag.replace(" default", "")[1:] if chance.randrange(2) else ""))
    heads.extend(f"first {first}" for first in chance.sample(("one", "two"), chance.choice((0, 0, 1, 2))))
    chance.shuffle(heads)
    for head in heads:
        lines.append(head)
        is_behind = head.startswith("first")
        for _ in range(chance.randrange(1, most_rows + 1)):
            row = some_row(chance, places, numbers, [] if is_behind else ["it", "it"], called)
            is_behind = is_behind or row.startswith("call")
            lines.append(row.strip())
    return "\n".join(lines)


def some_edition(chance, name="e", most_rows=3):
    """An edition by chance."""
    while True:
        try:
            return Edition.read(some_text(chance, name, most_rows))
        except BadText:
            continue


def changed(chance, elder, name="n"):
    """An edition that is unlike another one in a few words or lines, or a wholly other one."""
    if chance.randrange(8) == 0:
        return some_edition(chance, name)
    while True:
        lines = [f"edition {name}"] + elder.text().split("\n")[1:]
        for _ in range(chance.randrange(1, 3)):
            at = chance.randrange(len(lines))
            words = lines[at].split(" ")
            where = chance.randrange(len(words))
            kind = chance.randrange(8)
            if kind == 0 and at > 0:
                del lines[at]
            elif kind == 1 and at > 0:
                lines.insert(at, lines[chance.randrange(1, len(lines))])
            elif kind == 2:
                lines[at] += chance.choice((" at 1", " at 2 default", " 1", " default"))
            elif at > 0:
                words[where] = chance.choice(NAMES + ACCESSES + ("0", "1", "2", "it", "box.0", "box", "tell", "end"))
                lines[at] = " ".join(words)
            if len(lines) == 0 or not lines[0].startswith("edition"):
                lines.insert(0, f"edition {name}")
        try:
            return Edition.read("\n".join(lines))
        except BadText:
            continue


def some_client(chance, elder, newer, most_units=2):
    """A client by chance of what one of the two editions offers."""
    units = []
    for at in range(chance.randrange(1, most_units + 1)):
        lines = [f"unit {'ua'[at]}" + chance.choice(("", "", " late"))]
        lines.extend(["cell own 1"] * chance.randrange(2))
        source = chance.choice((elder, elder, newer))
        places = [f"{cell}.{index}" for cell, index in source.places()
                  if source.cells[cell][0] == "open" or chance.randrange(12) == 0]
        places = [place for place in places if chance.randrange(2)] + (["$own"] if len(lines) > 1 else [])
        called = []
        for other in (elder, source, source):
            called.extend(f"{name} " for name in list(other.offers()) + ["in"])
            called.extend(f"{member.name} at {member.tag}" for member in other.members if member.tag)
            called.extend(f"{member.name} " for member in other.members if chance.randrange(9) == 0)
        numbers = [number for number in source.numbers if chance.randrange(2)]
        wanted = list(elder.wants) + [name for name in newer.wants if chance.randrange(2)]
        shared = [name for name in wanted if at == 0] + chance.sample(NAMES, chance.choice((0, 0, 1)))
        heads = [f"routine {name}" for name in dict.fromkeys(shared)] + ["inner in"] + ["start"] * (at == 0)
        chance.shuffle(heads)
        for head in heads:
            lines.append(head)
            for _ in range(chance.randrange(1, 5)):
                row = some_row(chance, places, numbers, ["it"] * (head != "start"), called)
                if chance.randrange(8) == 0:
                    row = f"there {chance.choice(NAMES)} else 1"
                lines.append(row.strip())
            lines.append("end")
        units.append("\n".join(lines))
    try:
        return Client.of(*units)
    except QuietError:
        return some_client(chance, elder, newer, most_units)
