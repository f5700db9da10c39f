"""Chains that break (10.3 to 10.5)."""

import itertools
import random
import unittest

from quietedition.assembling import assemble_all, written_out
from quietedition.chains import Break, breaks, broken
from quietedition.errors import BadMoment, NotLinked, TooMany
from quietedition.facts import what_parts
from quietedition.houses import House
from quietedition.judging import manners_of
from quietedition.manners import Manners
from quietedition.runs import is_served, outcome
from quietedition.units import Client
from quietedition.world import Moment, World
from quietedition.writing import written
from tests.making import changed, some_edition
from tests.questions import ALL, NO_MOMENTS, NONE
from tests.test_houses import FOUR, MANY, named


class Broken(unittest.TestCase):
    def test_one_chain(self):
        quiet = {(0, 1): True, (0, 2): False, (1, 2): True}
        self.assertEqual(broken(quiet=quiet), [(0, 1, 2)])
        for pair in quiet:
            self.assertEqual(broken({**quiet, pair: not quiet[pair]}), [])
        self.assertEqual(broken({}), [])
        self.assertEqual(broken({(0, 1): True}), [])
        self.assertEqual(broken({(0, 1): False}), [])

    def test_any_order_of_the_keys(self):
        chance = random.Random(211)
        for count in (3, 4, 5, 7):
            for _ in range(60):
                pairs = list(itertools.combinations(range(count), 2))
                told = {pair: chance.random() < 0.7 for pair in pairs}
                chance.shuffle(pairs)
                shuffled = {pair: told[pair] for pair in pairs}
                wanted = [(i, j, k) for i, j, k in itertools.combinations(range(count), 3)
                          if told[(i, j)] and told[(j, k)] and not told[(i, k)]]
                self.assertEqual(broken(shuffled), wanted)
                self.assertEqual(list(shuffled), pairs)


def by_notes():
    """At the loading each note finds its member in the next edition, but not those of the eldest in the last one."""
    first = named("a", "routine f open at 1 default", "tell 1")
    second = named("b", "routine f open at 1", "tell 1", "routine f open at 2 default", "tell 2")
    third = named("c", "routine f open at 1", "tell 3", "routine f open at 2 default", "tell 2")
    return [first, second, third]


def by_manners():
    """A name that only the last edition calls back: giving it is `free` to the first one, and `over` to the second."""
    first = named("a", "routine g open", "end")
    second = named("b", "routine g open", "end", "routine x open", "end")
    third = named("c", "routine g open", "call x 1", "routine x open", "end")
    return [first, second, third]


class Breaks(unittest.TestCase):
    def check(self, editions, moment, manners):
        """The breaks of a house, each with all that 10.4 promises of it."""
        house = House(editions)
        found = breaks(house=house, moment=moment, manners=manners)
        self.assertEqual([part.chain for part in found], broken(house.matrix(moment, manners)))
        for part in found:
            i, j, k = [editions[at] for at in part.chain]
            verdict = house.verdict(part.chain[0], part.chain[2], moment, manners)
            self.assertIsInstance(part, Break)
            self.assertEqual(part.client, written(verdict))
            second = {"assembled": lambda one, two: World.of(two), "linked": lambda one, two: World(one, two, two),
                      "loaded": lambda one, two: World(one, one, two)}[moment]
            worlds = [World.of(i), second(i, j), World.of(j), second(j, k), second(i, k)]
            self.assertEqual(part.rows, tuple(outcome(part.client, world) for world in worlds))
            steps = manners_of(part.client, i, j), manners_of(part.client, j, k)
            allowed = all(step.is_part_of(manners) for step in steps)
            self.assertEqual(part.reason, "notes" if allowed else "manners")
            if moment != "loaded":
                self.assertEqual(part.reason, "manners")
            if part.reason == "notes":
                self.check_notes(part, i, j)
            self.assertNotEqual(part.rows[0], part.rows[4])
        return found

    def check_notes(self, part, i, j):
        self.assertEqual(part.rows[0], part.rows[1])
        if is_served(part.client, j):
            self.assertEqual(part.rows[2], part.rows[3])
        client = Client([written_out(unit, i) for unit in part.client.units])
        try:
            self.assertNotEqual(what_parts(assemble_all(client, i), i, j), [])
        except NotLinked:
            pass

    def test_notes(self):
        found = self.check(by_notes(), "loaded", NONE)
        self.assertEqual([(part.chain, part.reason) for part in found], [((0, 1, 2), "notes")])
        told = [[row for row in rows if row[0] == "edition"] for rows in found[0].rows]
        self.assertEqual(told, [[("edition", n)] for n in (1, 1, 2, 2, 3)])
        self.assertIsInstance(found[0].rows, tuple)
        self.assertEqual(self.check(by_notes(), "linked", NONE), [])
        self.assertEqual(self.check(by_notes(), "loaded", Manners.of("tags")), [])

    def test_manners(self):
        for moment in Moment.ALL:
            found = self.check(by_manners(), moment, Manners.of("free"))
            self.assertEqual([(part.chain, part.reason) for part in found], [((0, 1, 2), "manners")])
            self.assertEqual(self.check(by_manners(), moment, Manners.of("free", "over")), [])
            self.assertEqual(self.check(by_manners(), moment, NONE), [])

    def test_no_breaks(self):
        for moment in Moment.ALL:
            self.assertEqual(self.check(FOUR, moment, NONE), [])
            self.assertEqual(self.check(FOUR[:1], moment, ALL), [])
            self.assertEqual(self.check(FOUR[:2], moment, ALL), [])

    def test_many_breaks(self):
        again = [named(name, *made.text().split("\n")[1:]) for name, made in zip("abcd", by_notes() + by_notes()[2:])]
        found = self.check(again, "loaded", NONE)
        self.assertEqual([part.chain for part in found], [(0, 1, 2), (0, 1, 3)])
        found.clear()
        self.assertEqual(len(breaks(House(again), "loaded", NONE)), 2)

    def test_errors(self):
        for thing in NO_MOMENTS:
            for editions in (FOUR[:1], FOUR, [FOUR[0], MANY]):
                with self.assertRaises(BadMoment) as caught:
                    breaks(House(editions), thing, NONE)
                self.assertEqual(caught.exception.moment, thing)
        with self.assertRaises(TooMany) as caught:
            breaks(House([FOUR[0], FOUR[1], MANY]), "linked", NONE)
        self.assertEqual(caught.exception.what, "numbers")

    def test_by_chance(self):
        """At "assembled" and "linked" no chain breaks if both over and free are among the manners."""
        chance = random.Random(212)
        count = 0
        for _ in range(400):
            editions = [some_edition(chance, "a", 3)]
            for name in "bcd":
                editions.append(changed(chance, editions[-1], name))
            moment = chance.choice(Moment.ALL)
            manners = Manners([name for name in Manners.ALL if chance.randrange(3) == 0])
            try:
                found = self.check(editions, moment, manners)
            except TooMany:
                continue
            if moment != "loaded" and Manners.of("free", "over").is_part_of(manners):
                self.assertEqual(found, [])
            count += 1
        self.assertGreater(count, 200)

    def test_breaks_by_chance(self):
        """Changes of tags, accesses and calls, of which many steps are quiet."""
        chance = random.Random(213)
        found = {"notes": 0, "manners": 0}
        for _ in range(1500):
            editions = []
            for name in "abc":
                lines = []
                for tag in chance.sample((1, 2, 3), chance.randrange(1, 3)):
                    word = "" if any("default" in line for line in lines) or chance.randrange(2) else " default"
                    lines += [f"routine f {chance.choice(('open', 'guarded'))} at {tag}{word}", f"tell {min(tag, 2)}"]
                has_x = chance.randrange(2)
                lines += ["routine g open", "call x 1" if has_x and chance.randrange(2) else "end"]
                lines += ["routine x open", "end"] if has_x else []
                editions.append(named(name, *lines))
            moment = chance.choice(Moment.ALL)
            manners = Manners([name for name in ("free", "over", "tags") if chance.randrange(2)])
            for part in self.check(editions, moment, manners):
                found[part.reason] += 1
                self.assertFalse(moment != "loaded" and len(manners & Manners.of("free", "over")) == 2)
        self.assertGreater(min(found.values()), 2)


if __name__ == "__main__":
    unittest.main()
