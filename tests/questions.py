"""Questions by chance, and verdicts of questions that may be out of the bounds."""

from quietedition.errors import TooMany
from quietedition.manners import Manners
from quietedition.verdicts import judge
from quietedition.world import Moment
from tests.making import changed, some_edition

NONE = Manners.of()
ALL = Manners(Manners.ALL)
NO_MOMENTS = (None, 0, True, "", "load", "Loaded", ["loaded"], ("linked",), ("assembled", "linked", "loaded"), 1)


def question(elder, newer, moment, manners):
    """The verdict of a question, None if it is out of the bounds."""
    try:
        return judge(elder, newer, moment, manners)
    except TooMany:
        return None


def questions(chance, count, most_rows=5):
    """Questions by chance that are within the bounds; fewer of those at which a client notices at once."""
    while count > 0:
        elder = some_edition(chance, most_rows=most_rows)
        newer = changed(chance, elder)
        moment = chance.choice(Moment.ALL)
        manners = Manners([name for name in Manners.ALL if chance.randrange(2)])
        verdict = question(elder, newer, moment, manners)
        if verdict is None or (verdict.cost == 0 and chance.randrange(3)):
            continue
        yield elder, newer, moment, manners
        count -= 1
