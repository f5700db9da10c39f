"""Lists in which each thing stands once."""


def ascending(things):
    """The things, each once, in ascending order."""
    return sorted(set(things))


def once(things):
    """The things, each once, in the order in which they first occur."""
    return list({thing: True for thing in things})
