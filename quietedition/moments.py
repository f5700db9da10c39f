"""The three moments beside each other (9.6)."""

from quietedition.linking import size_of
from quietedition.surveys import survey
from quietedition.verdicts import judge
from quietedition.world import Moment


def all_moments(elder, newer, *, among=None):
    """The surveys at all moments, a dict in the order of the moments; raises TooMany."""
    return {moment: survey(elder, newer, moment, among=among) for moment in Moment.ALL}


def moments_quiet(elder, newer, manners):
    """Whether a set of manners is quiet at each moment, a tuple in their order; raises TooMany."""
    verdicts = [judge(elder, newer, moment, manners) for moment in Moment.ALL]
    return tuple([verdict.is_quiet for verdict in verdicts])


def is_possible(triple):
    """Whether the moments can be quiet like that."""
    assembled, linked, _ = triple
    return linked or not assembled


def numbers_agree(elder, newer):
    """Whether the newer edition has every number of the elder one, with the same integer."""
    return all([newer.numbers.get(name, None) == number for name, number in elder.numbers.items()])


def is_noted_alike(name, tag, elder, newer):
    """Whether linking with the newer edition notes what it notes with the elder one, if that takes name and tag."""
    noted = elder.visible(name, tag)
    other = newer.visible(name, tag)
    return noted is None or (other is not None and other.tag == noted.tag)


def notes_agree(elder, newer):
    """Whether linking notes the same tags and sizes with both editions, for all that the elder one takes."""
    names = elder.offers()
    if not all([is_noted_alike(name, tag, elder, newer) for name in names for tag in range(10)]):
        return False
    cells = [cell for cell in elder.cells if size_of(elder, cell) is not None]
    return all([size_of(newer, cell) == size_of(elder, cell) for cell in cells])
