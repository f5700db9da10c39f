"""Verdicts: whether any client of a question notices the newer edition (7.1, 7.10 to 7.14)."""

from quietedition.doors import at_once, check_bounds, given_sets
from quietedition.errors import TooMany
from quietedition.joint import Joint
from quietedition.saturation import MOST_COST, Saturation


def clue_cost(clue):
    """The cost of a clue: the number of its calls, writes and homes."""
    if clue[0] != "game":
        return 0
    cost = 0
    waiting = [clue[2]]
    while len(waiting) > 0:
        moves = waiting.pop()
        homes = [home for move in moves if move[0] in ("load", "call") for home in move[-1]]
        cost = cost + len(homes) + len([move for move in moves if move[0] in ("call", "write")])
        waiting.extend([inner for _, inner in homes])
    return cost


class Verdict:
    """What is known of a question: a table if nobody notices, otherwise a clue and a floor."""

    def __init__(self, elder, newer, moment, manners, table, clue, floor):
        self.elder = elder
        self.newer = newer
        self.moment = moment
        self.manners = manners
        self.is_quiet = clue is None
        self.table = list(table)
        self.cost = None if clue is None else clue_cost(clue)
        self.clue = clue
        self.floor = list(floor)


def least_game(games):
    """The given set of the game with the least cost, the first one of several; None if nobody notices in any."""
    costs = [(game.cost, given) for given, game in games.items() if game.cost is not None]
    return min(costs)[1] if len(costs) > 0 else None


def judge(elder, newer, moment, manners):
    """The verdict of a question; raises BadMoment and TooMany."""
    check_bounds(elder, newer, moment, manners)
    notice = at_once(elder, newer, moment, manners)
    if notice is not None:
        return Verdict(elder, newer, moment, manners, [], notice, [])
    games = {given: Saturation(Joint(elder, newer, moment, manners, given))
             for given in given_sets(elder, newer, manners)}
    least = least_game(games)
    if least is None:
        table = [(given, base, states) for given, game in games.items() for base, states in game.entries()]
        return Verdict(elder, newer, moment, manners, table, None, [])
    cost = games[least].cost
    if cost > MOST_COST:
        raise TooMany("moves")
    floor = [(given, base, reach, states) for given, game in games.items()
             for base, reach, states in game.floor(cost)]
    return Verdict(elder, newer, moment, manners, [], ("game", least, games[least].moves), floor)
