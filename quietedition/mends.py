"""Sets of mends: which of them make a step quiet (10.8 to 10.10)."""

from quietedition.drafts import Draft, is_mend
from quietedition.errors import BadMend
from quietedition.verdicts import judge
from quietedition.world import check_moment
from quietedition.writing import written

MOST_MENDS = 4


def mended(elder, newer, lines):
    """The edition after all mends; raises BadMend."""
    draft = Draft(elder, newer)
    for line in lines:
        draft.apply(line)
    return draft.edition()


def includes(places, others):
    """Whether a set of places has all those of another one."""
    return all([at in places for at in others])


class Mends:
    """What the sets of a pool of mends come to, each set as a tuple of places."""

    def __init__(self, good, failing, broken):
        self.good = list(good)
        self.least = [places for places in good
                      if not any([includes(places, other) and places != other for other in good])]
        self.failing = {places: failing[places] for places in failing}
        self.broken = {places: broken[places] for places in broken}
        others = list(failing) + list(broken)
        self._monotone = not any([includes(places, other) for places in others for other in good])

    @property
    def is_monotone(self):
        """Whether no set that includes a good one fails or is broken."""
        return self._monotone


def sets_of_places(count):
    """All sets of so many places, by length and then as tuples."""
    sets = [()]
    for at in range(count):
        sets = sets + [places + (at,) for places in sets]
    return sorted(sets, key=lambda places: (len(places), places))


def check_pool(pool):
    """Raises BadMend if the pool has too many lines, or a line that is no mend."""
    if len(pool) > MOST_MENDS:
        raise BadMend(MOST_MENDS, "many")
    for at, line in enumerate(pool):
        if not is_mend(line):
            raise BadMend(at, "words")


def attempt(elder, newer, lines):
    """The edition after all mends and an empty cause, or None and the cause for which there is none."""
    try:
        return (mended(elder, newer, lines), "")
    except BadMend as wrong:
        return (None, wrong.cause)


def least_mends(elder, newer, moment, manners, pool):
    """What the sets of a pool of mends come to; raises BadMend, BadMoment and TooMany."""
    check_pool(pool)
    check_moment(moment)
    good = []
    failing = {}
    broken = {}
    for places in sets_of_places(len(pool)):
        made, cause = attempt(elder, newer, [pool[at] for at in places])
        if made is None:
            broken[places] = cause
            continue
        verdict = judge(elder, made, moment, manners)
        if verdict.is_quiet:
            good.append(places)
        else:
            failing[places] = written(verdict)
    return Mends(good, failing, broken)
