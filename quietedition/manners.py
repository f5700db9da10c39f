"""Sets of manners (1.14)."""

from quietedition.errors import BadManner


class Manners:
    """A set of some of the seven manners."""

    ALL = ("asks", "free", "over", "shows", "straight", "tags", "within")

    def __init__(self, names):
        for name in names:
            if name not in Manners.ALL:
                raise BadManner(name)
        self.names = tuple([name for name in Manners.ALL if name in names])

    @classmethod
    def of(cls, *names):
        """The set of the manners that are passed."""
        return cls(names)

    def is_part_of(self, other):
        """Whether the other set has all manners of this one."""
        return all([name in other.names for name in self.names])

    def __or__(self, other):
        return Manners(self.names + other.names)

    def __and__(self, other):
        return Manners([name for name in self.names if name in other.names])

    def __sub__(self, other):
        return Manners([name for name in self.names if name not in other.names])

    def __eq__(self, other):
        return isinstance(other, Manners) and self.names == other.names

    def __contains__(self, name):
        return name in self.names

    def __len__(self):
        return len(self.names)

    def __iter__(self):
        return iter(self.names)

    def __str__(self):
        return " ".join(self.names if len(self.names) > 0 else ("none",))
