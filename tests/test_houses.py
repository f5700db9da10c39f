"""Houses (10.1, 10.2, 10.6, 10.10)."""

import random
import unittest

from quietedition.checking import is_clue, is_table
from quietedition.editions import Edition
from quietedition.errors import BadHouse, BadMoment, TooMany
from quietedition.houses import House
from quietedition.judging import manners_of
from quietedition.manners import Manners
from quietedition.runs import is_served
from quietedition.trials import Trial
from quietedition.verdicts import judge
from quietedition.world import Moment
from quietedition.writing import written
from tests.making import changed, some_edition
from tests.questions import ALL, NONE, NO_MOMENTS


def named(name, *lines):
    return Edition.read("\n".join((f"edition {name}",) + lines))


def telling(name, *numbers):
    return named(name, "routine f open", *[f"tell {n}" for n in numbers])


FOUR = [telling("a", 1), telling("b", 1), telling("c", 2), telling("d", 1)]
MANY = telling("m", 1, 2, 3, 4)


class Making(unittest.TestCase):
    def at(self, editions):
        with self.assertRaises(BadHouse) as caught:
            House(editions)
        return caught.exception.at

    def test_sizes(self):
        for count in (1, 2, 3, 4):
            house = House(editions=FOUR[:count])
            self.assertEqual(len(house), count)
            self.assertEqual([house[i] for i in range(count)], FOUR[:count])
            self.assertEqual(list(house), FOUR[:count])
            self.assertEqual([made for made in House(tuple(FOUR[:count]))], FOUR[:count])
        self.assertEqual(self.at([]), 0)
        self.assertEqual(self.at(()), 0)
        self.assertEqual(self.at(FOUR + [telling("e", 1)]), 4)

    def test_too_many_ahead_of_all_else(self):
        self.assertEqual(self.at([None] * 5), 4)
        self.assertEqual(self.at(FOUR[:1] * 6), 4)

    def test_no_editions(self):
        for thing in (None, True, 0, "edition a", "", [], (), [FOUR[3]], (FOUR[3],), [["a"]], FOUR[3].text()):
            for at in range(4):
                self.assertEqual(self.at(FOUR[:at] + [thing] + FOUR[at:3]), at)
        self.assertEqual(self.at([FOUR[0], None, FOUR[0]]), 1)

    def test_equal_names(self):
        self.assertEqual(self.at([FOUR[0], FOUR[1], telling("a", 2), None]), 2)
        self.assertEqual(self.at((FOUR[0], FOUR[0])), 1)
        self.assertEqual(len(House([telling("x", 1), telling("y", 1)])), 2)

    def test_a_list_that_is_changed_later(self):
        editions = list(FOUR)
        house = House(editions)
        editions[0] = None
        editions.pop()
        self.assertEqual(list(house), FOUR)
        self.assertEqual(house.matrix("linked", NONE)[(0, 3)], True)


class Verdicts(unittest.TestCase):
    HOUSE = House(FOUR)

    def test_verdict(self):
        verdict = self.HOUSE.verdict(i=0, j=2, moment="linked", manners=ALL)
        self.assertEqual((verdict.elder, verdict.newer, verdict.moment, verdict.manners),
                         (FOUR[0], FOUR[2], "linked", ALL))
        self.assertEqual(verdict.clue, judge(FOUR[0], FOUR[2], "linked", ALL).clue)
        self.assertTrue(self.HOUSE.verdict(0, 3, "loaded", NONE).is_quiet)

    def test_the_order_of_the_errors(self):
        def raised(*arguments):
            try:
                self.HOUSE.verdict(*arguments)
            except BadHouse as error:
                return ("house", error.at)
            except BadMoment as error:
                return ("moment", error.moment)
            return None
        for i in (-1, 4, 99, -99):
            for j in (-1, 0, 2, 9):
                self.assertEqual(raised(i, j, "no", ALL), ("house", i))
        for i, j in ((0, -1), (0, 4), (0, 0), (2, 1), (3, 3), (3, 4), (1, 0), (3, 99)):
            self.assertEqual(raised(i, j, "no", ALL), ("house", j))
        for thing in NO_MOMENTS:
            self.assertEqual(raised(0, 1, thing, ALL), ("moment", thing))
        self.assertIsNone(raised(0, 1, "linked", ALL))
        self.assertIsNone(raised(2, 3, "linked", ALL))
        with self.assertRaises(BadMoment):
            House([FOUR[0], MANY]).verdict(0, 1, None, ALL)
        with self.assertRaises(TooMany):
            House([FOUR[0], MANY]).verdict(0, 1, "linked", ALL)

    def test_matrix_and_clients(self):
        quiet = {(0, 1): True, (0, 2): False, (0, 3): True, (1, 2): False, (1, 3): True, (2, 3): False}
        for moment in Moment.ALL:
            matrix = self.HOUSE.matrix(moment=moment, manners=NONE)
            self.assertEqual(matrix, quiet)
            self.assertEqual(list(matrix), sorted(quiet))
            clients = self.HOUSE.clients(moment=moment, manners=NONE)
            self.assertEqual(list(clients), [(0, 2), (1, 2), (2, 3)])
            for (i, j), client in clients.items():
                self.assertEqual(client, written(judge(FOUR[i], FOUR[j], moment, NONE)))
            matrix.clear()
            clients.clear()
            self.assertEqual(self.HOUSE.matrix(moment, NONE), quiet)

    def test_one_edition(self):
        house = House(FOUR[:1])
        for moment in Moment.ALL:
            self.assertEqual((house.matrix(moment, ALL), house.clients(moment, ALL), house.eldest(moment, ALL)),
                             ({}, {}, [0]))
        for thing in NO_MOMENTS:
            for action in (house.matrix, house.clients, house.eldest):
                with self.assertRaises(BadMoment) as caught:
                    action(thing, ALL)
                self.assertEqual(caught.exception.moment, thing)

    def test_the_first_pair_that_raises(self):
        lines = ["routine a open", "end", "routine b open", "end", "routine c open", "end", "first f"]
        names = named("n", *lines, "call a 1", "call b 1", "call c 1")
        for editions, what in (([FOUR[0], names, MANY], "names"), ([FOUR[0], MANY, names], "numbers"),
                               ([FOUR[0], FOUR[1], names, MANY], "names"), ([FOUR[0], FOUR[1], MANY, names], "numbers"),
                               ([names, FOUR[0], MANY], "names"), ([MANY, names, FOUR[0]], "numbers")):
            house = House(editions)
            for action in (house.matrix, house.clients, house.eldest):
                with self.assertRaises(TooMany) as caught:
                    action("linked", ALL)
                self.assertEqual(caught.exception.what, what)
                with self.assertRaises(BadMoment):
                    action("link", ALL)


class Eldest(unittest.TestCase):
    def eldest(self, *editions, manners=NONE, moment="linked"):
        return House(editions).eldest(moment=moment, manners=manners)

    def test_steps(self):
        a, b, c, d = FOUR
        self.assertEqual(self.eldest(a, b, c, d), [0, 0, 2, 3])
        self.assertEqual(self.eldest(a, b, d, c), [0, 0, 0, 3])
        self.assertEqual(self.eldest(c, a, b, d), [0, 1, 1, 1])
        self.assertEqual(self.eldest(a), [0])
        self.assertIsInstance(self.eldest(a, b), list)

    def test_a_middle_pair_that_is_not_quiet(self):
        """(0, 3) is quiet, but not (1, 3): the eldest one counts only as far as all between are quiet."""
        a, c, b, d = FOUR[0], FOUR[2], FOUR[1], FOUR[3]
        self.assertEqual(self.eldest(a, c, b, d), [0, 1, 2, 2])
        matrix = House([a, c, b, d]).matrix("linked", NONE)
        self.assertTrue(matrix[(0, 3)] and matrix[(2, 3)] and not matrix[(1, 3)])

    def test_quiet_to_the_elder_but_not_to_the_one_between(self):
        """Edition 2 is quiet to 0 and to 1, though 1 is not quiet to 0: its eldest is 0."""
        small, big = named("s", "cell p open 0"), named("b", "cell p open 0 0")
        again = named("t", "cell p open 0 0")
        straight = Manners.of("straight")
        self.assertEqual(self.eldest(small, big, again, manners=straight, moment="loaded"), [0, 1, 1])
        self.assertEqual(self.eldest(small, big, again, manners=straight, moment="linked"), [0, 0, 0])


class Whole(unittest.TestCase):
    def test_by_chance(self):
        """A house's matrix against its clients and tables."""
        chance = random.Random(201)
        seen = {True: 0, False: 0}
        for _ in range(150):
            editions = [some_edition(chance, "a", 4)]
            for name in "bcd":
                editions.append(changed(chance, chance.choice(editions), name))
            house = House(editions)
            moment = chance.choice(Moment.ALL)
            manners = Manners([name for name in Manners.ALL if chance.randrange(2)])
            try:
                matrix, clients = house.matrix(moment, manners), house.clients(moment, manners)
            except TooMany:
                continue
            self.assertEqual(list(matrix), [(0, 1), (0, 2), (0, 3), (1, 2), (1, 3), (2, 3)])
            self.assertEqual([pair for pair in matrix if not matrix[pair]], list(clients))
            for (i, j), quiet in matrix.items():
                verdict = house.verdict(i, j, moment, manners)
                seen[quiet] += 1
                if quiet:
                    self.assertTrue(is_table(editions[i], editions[j], moment, manners, verdict.table))
                    continue
                self.assertTrue(is_clue(editions[i], editions[j], moment, manners, verdict.clue))
                client = clients[(i, j)]
                self.assertTrue(is_served(client, editions[i]))
                self.assertTrue(manners_of(client, editions[i], editions[j]).is_part_of(manners))
                self.assertTrue(Trial(client, editions[i], editions[j], moment).is_noticing)
            eldest = house.eldest(moment, manners)
            for j in range(4):
                wanted = min(i for i in range(j + 1) if all(matrix[(k, j)] for k in range(i, j)))
                self.assertEqual(eldest[j], wanted)
        self.assertGreater(min(seen.values()), 100)


if __name__ == "__main__":
    unittest.main()
