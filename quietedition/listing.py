"""Objects in columns (2.6)."""


def name_line(word, name):
    """A line for a name alone."""
    return f"{word:<8}{name}"


def number_line(word, name, integer):
    """A line for a name and its integer."""
    return f"{word:<8}{name:<13}{integer:>10}"


def numbered_lines(block):
    """The head line of a block and its numbered rows."""
    return [block.head()] + [f"{index:>4}  {row.text()}" for index, row in enumerate(block.rows)]


def listing(made):
    """The lines of an object."""
    lines = [f"object {made.name} late" if made.is_late else f"object {made.name}"]
    lines.extend([number_line("cell", name, integer) for name, integer in made.cells.items()])
    lines.extend([number_line("number", name, integer) for name, integer in made.numbers.items()])
    lines.extend([name_line("gives", name) for name in made.gives])
    lines.extend([number_line("calls", name, tag) for name, tag in made.calls])
    lines.extend([number_line("uses", name, index) for name, index in made.uses.items()])
    lines.extend([name_line("asks", name) for name in made.asked])
    for block in made.blocks:
        lines.extend(numbered_lines(block))
    return lines
