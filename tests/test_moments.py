"""The three moments beside each other (9.6)."""

import itertools
import random
import unittest

from quietedition.errors import TooMany
from quietedition.families import parts
from quietedition.manners import Manners
from quietedition.moments import all_moments, is_possible, moments_quiet, notes_agree, numbers_agree
from quietedition.surveys import survey
from quietedition.verdicts import judge
from quietedition.world import Moment
from tests.making import changed, edition, some_edition
from tests.questions import ALL, NONE, question

STRAIGHT = Manners.of("straight")
ONE, TWO = edition("cell p open 0"), edition("cell p open 0 0")
DEFAULT = edition("routine f open at 1 default", "end")


class Triples(unittest.TestCase):
    def test_each_that_is_possible(self):
        number, none = edition("number a 1", "cell p open 0"), TWO
        moved = edition("routine f open at 1", "end", "routine f open at 2 default", "tell 1")
        untagged = edition("routine f open", "end")
        cases = [
            (ONE, ONE, ALL, (True, True, True)),
            (ONE, TWO, STRAIGHT, (True, True, False)),
            (DEFAULT, untagged, NONE, (True, True, False)),
            (edition("number a 1"), edition("number a 2"), Manners.of("shows"), (False, True, True)),
            (number, none, STRAIGHT, (False, True, False)),
            (DEFAULT, moved, NONE, (False, False, True)),
            (edition("first x", "tell 1"), edition(), NONE, (False, False, False)),
            (TWO, ONE, STRAIGHT, (False, False, False)),
        ]
        for elder, newer, manners, triple in cases:
            self.assertEqual(moments_quiet(elder=elder, newer=newer, manners=manners), triple)
            self.assertIs(is_possible(triple=triple), True)
        self.assertEqual(len({triple for _, _, _, triple in cases}), 6)

    def test_those_that_are_not(self):
        for triple in itertools.product((True, False), repeat=3):
            self.assertIs(is_possible(triple), triple not in ((True, False, True), (True, False, False)))

    def test_by_chance(self):
        chance = random.Random(191)
        seen = {}
        for _ in range(2500):
            elder = some_edition(chance, most_rows=2)
            newer = changed(chance, changed(chance, elder))
            manners = Manners([name for name in Manners.ALL if chance.randrange(2)])
            told = [question(elder, newer, moment, manners) for moment in Moment.ALL]
            if None in told:
                continue
            triple = moments_quiet(elder, newer, manners)
            self.assertEqual(triple, tuple(verdict.is_quiet for verdict in told))
            self.assertTrue(is_possible(triple))
            seen[triple] = seen.get(triple, 0) + 1
            assembled, linked, loaded = told
            if "tags" in manners and "straight" not in manners and linked.is_quiet:
                self.assertTrue(loaded.is_quiet)
            if numbers_agree(elder, newer):
                self.assertEqual(assembled.cost, linked.cost)
            if notes_agree(elder, newer):
                self.assertEqual(linked.cost, loaded.cost)
        self.assertGreaterEqual(len(seen), 4)


class Surveys(unittest.TestCase):
    def test_of_all_moments(self):
        among = Manners.of("straight", "shows")
        made = all_moments(elder=ONE, newer=TWO, among=among)
        self.assertEqual(list(made), ["assembled", "linked", "loaded"])
        for moment, one in made.items():
            self.assertEqual((one.moment, one.among, one.elder, one.newer), (moment, among, ONE, TWO))
            self.assertEqual(one.lines(), survey(ONE, TWO, moment, among=among).lines())
        self.assertEqual([str(made["loaded"].least_noticing[0]), made["linked"].least_noticing], ["straight", []])
        self.assertEqual(all_moments(ONE, ONE)["linked"].among, ALL)
        made.clear()
        self.assertEqual(len(all_moments(ONE, TWO, among=among)), 3)
        with self.assertRaises(TypeError):
            all_moments(ONE, TWO, among)

    def what(self, action, *arguments):
        try:
            action(*arguments)
        except TooMany as error:
            return error.what
        return None

    def test_errors_at_one_moment_and_at_two(self):
        elder, newer = edition("number a 1", "number b 2"), edition("number a 3", "number b 4")
        cells = [edition(*made.text().split("\n")[1:], "cell p open 0 0") for made in (elder, newer)]
        for action, more in ((all_moments, ()), (moments_quiet, (ALL,))):
            # The unlike numbers are kept ones at "assembled" alone.
            self.assertEqual(self.what(action, elder, newer, *more), "numbers")
            self.assertEqual(self.what(action, TWO, TWO, *more), "places")
            # Too many numbers at "assembled", too many places at the others: the first one is raised.
            self.assertEqual(self.what(action, *cells, *more), "numbers")

    def test_an_error_at_a_later_moment(self):
        """At "assembled" the clients notice at once; at the others only behind 61 moves."""
        def many(told, *lines):
            return edition(*lines, "wants w", "first go", *["call mid 1"] * 7, "call low 1", "routine mid hidden",
                           *["call w 1"] * 8, "routine low hidden", *["call w 1"] * 4, "routine tell open", f"tell {told}")
        elder, newer = many(0, "number a 1"), many(1)
        self.assertEqual(judge(elder, newer, "assembled", NONE).clue, ("number", "a"))
        self.assertEqual(self.what(judge, elder, newer, "linked", NONE), "moves")
        self.assertEqual(self.what(moments_quiet, elder, newer, NONE), "moves")
        self.assertEqual(self.what(all_moments, elder, newer), "moves")


class Conditions(unittest.TestCase):
    def test_numbers_agree(self):
        one, two = edition("number a 1", "number b 2"), edition("number b 2", "number c 3", "number a 1")
        self.assertIs(numbers_agree(elder=one, newer=two), True)
        self.assertIs(numbers_agree(two, one), False)
        self.assertIs(numbers_agree(one, edition("number a 1", "number b 3")), False)
        self.assertIs(numbers_agree(one, edition("number a 1")), False)
        self.assertIs(numbers_agree(edition(), one), True)
        self.assertIs(numbers_agree(edition(), edition()), True)
        self.assertIs(numbers_agree(edition("number a 0"), edition()), False)

    def notes(self, elder, newer):
        return notes_agree(elder=elder, newer=newer)

    def test_names_and_tags(self):
        both = edition("routine f open at 1 default", "end", "routine f guarded at 2", "end")
        self.assertIs(self.notes(both, both), True)
        for text, wanted in (("routine f open at 1 default|end|routine f open at 2|end|routine f open at 3|end", True),
                             ("routine f open at 1|end|routine f open at 2 default|end", False),
                             ("routine f open at 1|end|routine f open at 2|end", False),
                             ("routine f open at 1 default|end", False), ("routine f open|end", False), ("", False),
                             ("routine f open at 1 default|end|routine f hidden at 2|end", False),
                             ("routine f guarded at 2|end|routine f open at 1 default|end|routine g open|end", True),
                             ("wants f", False)):
            self.assertIs(self.notes(both, edition(*[line for line in text.split("|") if line])), wanted, text)

    def test_a_tag_that_becomes_the_default(self):
        tagged = edition("routine f open at 1", "end")
        self.assertIs(self.notes(tagged, DEFAULT), True)
        self.assertIs(self.notes(DEFAULT, tagged), False)
        self.assertIs(self.notes(DEFAULT, edition("routine f open", "end")), False)
        self.assertIs(self.notes(edition("routine f open", "end"), DEFAULT), False)

    def test_hidden_members_are_not_noted(self):
        hidden = edition("routine f hidden at 1 default", "end", "routine f open at 2", "end")
        self.assertIs(self.notes(hidden, edition("routine f open at 2", "end")), True)
        self.assertIs(self.notes(edition("routine f hidden", "end"), edition()), True)
        self.assertIs(self.notes(edition(), DEFAULT), True)

    def test_cells(self):
        for elder, newer, wanted in ((ONE, ONE, True), (ONE, TWO, False), (TWO, ONE, False), (ONE, edition(), False),
                                     (ONE, edition("cell p hidden 0"), False), (edition("cell p hidden 0"), TWO, True),
                                     (edition(), ONE, True), (ONE, edition("cell q open 7", "cell p open 9"), True)):
            self.assertIs(self.notes(elder, newer), wanted)

    def test_nothing_else_counts(self):
        elder = edition("number a 1", "cell p open 0", "wants w", "routine f open", "tell 1")
        newer = edition("number a 2", "cell p open 3", "routine f guarded", "tell 2", "first x", "end")
        self.assertIs(self.notes(elder, newer), True)


class Promises(unittest.TestCase):
    def test_conditions_and_all_parts(self):
        """Where a condition holds, the verdicts agree for all manners."""
        chance = random.Random(192)
        counts = [0, 0]
        for _ in range(120):
            elder = some_edition(chance, most_rows=4)
            newer = changed(chance, elder)
            for part in parts(ALL - Manners.of("asks", "shows", "free")):
                told = [question(elder, newer, moment, part) for moment in Moment.ALL]
                if None in told:
                    continue
                costs = [verdict.cost for verdict in told]
                if numbers_agree(elder, newer):
                    self.assertEqual(costs[0], costs[1])
                    counts[0] += 1
                if notes_agree(elder, newer):
                    self.assertEqual(costs[1], costs[2])
                    counts[1] += 1
        self.assertGreater(min(counts), 500)


if __name__ == "__main__":
    unittest.main()
