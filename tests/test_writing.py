"""The client that is written for a verdict (8.4)."""

import random
import unittest

from quietedition.editions import Edition
from quietedition.judging import manners_of
from quietedition.manners import Manners
from quietedition.runs import is_served
from quietedition.trials import Trial
from quietedition.units import Client
from quietedition.verdicts import judge
from quietedition.world import Moment
from quietedition.writing import written
from tests.making import edition
from tests.questions import ALL, NONE, questions


class Written(unittest.TestCase):
    def check(self, elder, newer, moment, manners):
        """The client of a verdict, which has all that is promised of it; None if the verdict is quiet."""
        verdict = judge(elder, newer, moment, manners)
        client = written(verdict=verdict)
        if verdict.is_quiet:
            self.assertIsNone(client)
            return None
        self.assertIsInstance(client, Client)
        self.assertEqual([(unit.name, unit.is_late) for unit in client.units], [("told", False)])
        self.assertEqual(Client.of(*client.texts()), client)
        self.assertTrue(is_served(client, elder))
        self.assertTrue(manners_of(client, elder, newer).is_part_of(manners))
        trial = Trial(client, elder, newer, moment)
        self.assertTrue(trial.is_noticing)
        self.assertEqual(trial.moves(), verdict.cost)
        self.assertEqual(written(verdict), client)
        self.assertEqual(written(judge(elder, newer, moment, manners)), client)
        return client


class AtOnce(Written):
    def all_moments(self, elder, newer, manners, count):
        """The number of moments at which a client is written."""
        told = [self.check(elder, newer, moment, manners) for moment in Moment.ALL]
        self.assertEqual(len([client for client in told if client is not None]), count)

    def test_wanted(self):
        self.all_moments(edition("wants w"), edition("wants v", "wants w"), NONE, 3)
        self.all_moments(edition(), edition("wants w"), ALL, 3)
        self.all_moments(edition("wants w", "first x", "call w 1"), edition("wants v"), NONE, 3)

    def test_doors(self):
        elder = edition("wants w", "routine b open at 3 default", "call w 1", "routine c open", "end", "routine d open",
                        "call c 1")
        for manners in (NONE, ALL):
            self.all_moments(elder, edition("wants w"), manners, 3)
        tagged, default = [edition(f"routine b open at 3{word}", "end") for word in ("", " default")]
        self.all_moments(default, tagged, NONE, 2)
        self.all_moments(elder, edition("routine b open", "end", "routine c open", "end"), Manners.of("tags"), 3)

    def test_numbers(self):
        """The number is passed through a door, told or written, as the manners allow it."""
        door = ("routine f open", "end")
        elder, newer = edition("number a 1", "wants w", *door), edition("wants w", *door)
        client = self.check(elder, newer, "assembled", NONE)
        self.assertEqual(manners_of(client, elder, newer), NONE)
        self.all_moments(elder, newer, ALL, 1)
        self.all_moments(edition("number a 1"), edition(), Manners.of("shows"), 1)
        self.all_moments(edition("number a 1"), edition(), ALL - Manners.of("shows"), 0)
        cell = ("cell p open 0",)
        client = self.check(edition("number a 1", *cell), edition(*cell), "assembled", Manners.of("straight"))
        self.assertEqual(manners_of(client, edition(), edition()).names, ("straight",))
        tagged = ("routine f open at 4", "end")
        self.all_moments(edition("number a 1", *tagged), edition(*tagged), Manners.of("tags"), 1)
        self.all_moments(edition("number a 1", *tagged), edition(*tagged), NONE, 0)

    def test_cells(self):
        one, two, straight = edition("cell p open 0"), edition("cell p open 0 0"), Manners.of("straight")
        for newer in (edition(), edition("cell p hidden 0 0"), one):
            self.all_moments(two, newer, straight, 3)
        self.all_moments(one, two, straight, 1)


class Games(Written):
    def noticed(self, *question):
        client = self.check(*question)
        self.assertIsNotNone(client)
        return client

    def quiet(self, *question):
        self.assertIsNone(self.check(*question))

    def test_the_loading(self):
        one, two = edition("first x", "tell 1"), edition("first x", "tell 2")
        self.noticed(one, two, "loaded", NONE)
        self.noticed(one, edition(), "loaded", NONE)
        self.noticed(edition(), one, "loaded", NONE)
        lines = ("wants w", "first x", "call w 1")
        self.noticed(edition(*lines), edition("wants w"), "loaded", NONE)
        self.noticed(edition("wants w"), edition(*lines), "loaded", NONE)
        self.noticed(edition(*lines, "call w 2"), edition(*lines, "call w 3"), "loaded", NONE)
        self.noticed(edition(*lines, "call w 2"), edition(*lines, "tell 2"), "loaded", NONE)

    def test_looks(self):
        straight, asks, shows = Manners.of("straight"), Manners.of("asks"), Manners.of("shows")
        self.noticed(edition("cell p open 1"), edition("cell p open 2"), "loaded", straight)
        self.noticed(edition(), edition("routine f open", "end"), "loaded", asks)
        self.noticed(edition("number a 1"), edition("number a 2"), "assembled", shows)
        self.quiet(edition("number a 1"), edition("number a 2"), "linked", shows)
        self.quiet(edition(), edition("routine f open", "end"), "loaded", ALL - asks)
        self.quiet(edition("cell p open 1"), edition("cell p open 2"), "loaded", ALL - straight)

    def test_each_pair_of_unlike_events(self):
        """Behind them both runs go on, and may tell the same rows in all but their order."""
        rows = (["end"], ["tell 1"], ["tell 2"], ["call w 1"], ["call w 2"], ["call v 1"], ["tell 1", "call w 1"],
                ["call w 1", "tell 1"], ["call w 1", "call w 1"])
        for one in rows:
            for two in rows:
                for behind in ([], ["tell 1"], ["call w 1"], ["call v 1", "tell 0"]):
                    editions = [edition("wants w", "wants v", "routine f open", *part, *behind) if part != ["end"]
                                else edition("wants w", "wants v", "routine f open", *(behind or ["end"]))
                                for part in (one, two)]
                    client = self.check(*editions, "linked", NONE)
                    self.assertEqual(client is None, editions[0] == editions[1])

    def test_inside_a_call_back(self):
        """An unlike event within a call back, where the outer edition's run would make up for it."""
        lines = ("cell p hidden 0", "wants w", "routine out open", "set p.0 1", "call w 1", "tell 7", "set p.0 0")
        for one, two in ((["tell 7"], ["end"]), (["call w 1"], ["end"]), (["tell 7"], ["call w 1"])):
            editions = [edition(*lines, "routine in open", "same p.0 1 else 1", *part) for part in (one, two)]
            for pair in (editions, editions[::-1]):
                client = self.noticed(*pair, "loaded", Manners.of("within"))
                self.assertEqual(manners_of(client, *pair).names, ("within",))
                self.quiet(*pair, "loaded", ALL - Manners.of("within"))

    def test_writes_and_looks_inside_a_call_back(self):
        elder, newer = [edition("cell p open 0", "wants w", "routine f open", "set p.0 0", "call w 1",
                                "same p.0 5 else 1", f"tell {n}", "set p.0 0") for n in (0, 5)]
        self.noticed(elder, newer, "linked", Manners.of("straight"))
        elder, newer = [edition("cell p open 0", "wants w", "routine f open", f"set p.0 {n}", "call w 1", "set p.0 0")
                        for n in (0, 5)]
        self.noticed(elder, newer, "linked", Manners.of("straight"))

    def test_unlike_numbers(self):
        elder, newer = [edition(f"number a {n}", "cell p open 0", "routine f open", "same it 1 else 1", "tell 9")
                        for n in (1, 2)]
        client = self.noticed(elder, newer, "assembled", NONE)
        self.assertIn("#a", client.texts()[0])
        one, two = [edition(f"number a {n}", "cell p open 0", "routine f open", "same p.0 1 else 1", "tell 9")
                    for n in (1, 2)]
        self.assertEqual(self.noticed(one, two, "assembled", Manners.of("straight")).texts()[0].count("#a"), 1)
        self.quiet(one, two, "assembled", ALL - Manners.of("straight", "shows"))

    def test_given_names(self):
        back = [edition("routine f open", "end", "routine g open", f"call f {n}") for n in (0, 1)]
        self.assertEqual(self.noticed(*back, "linked", Manners.of("over")).given(), ["f"])
        free = edition("routine g open", "end"), edition("routine g open", "call f 1", "routine f open", "end")
        self.assertEqual(self.noticed(*free, "loaded", Manners.of("free")).given(), ["f"])
        self.quiet(*free, "loaded", ALL - Manners.of("free", "asks"))

    def test_tags(self):
        elder, newer = [edition("routine f open at 1 default", "end", "routine f open at 2", f"tell {n}") for n in (0, 1)]
        self.noticed(elder, newer, "loaded", Manners.of("tags"))
        self.quiet(elder, newer, "loaded", ALL - Manners.of("tags"))

    def test_names_of_all_kinds(self):
        """Names that the client uses itself, or that are words of texts, are free for editions."""
        for name in ("told", "turn", "it", "end", "start", "unit", "w9"):
            elder, newer = [edition(f"number {name} 1", f"cell {name} open 0", f"wants {name}", "routine f open",
                                    f"call {name} {n}", f"set {name}.0 #{name}") for n in (0, 1)]
            self.noticed(elder, newer, "assembled", ALL)
            elder, newer = [edition(f"routine {name} open", f"tell {n}") for n in (0, 1)]
            self.noticed(elder, newer, "assembled", NONE)

    def test_long_integers(self):
        elder, newer = [edition("cell p hidden 999999999", "routine f open", f"same it {n} else 1", "tell 1")
                        for n in (-999999999, -999999998)]
        self.noticed(elder, newer, "loaded", NONE)

    def test_the_greatest_cost(self):
        def many(told, *lines):
            return edition("wants w", "first go", *["call mid 1"] * 7, "call low 1", "routine mid hidden",
                           *["call w 1"] * 8, "routine low hidden", *["call w 1"] * 3, *lines, f"tell {told}")
        self.noticed(many(0, "routine tell open"), many(1, "routine tell open"), "loaded", NONE)

    def test_calls_back_within_calls_back(self):
        elder, newer = [edition("cell box hidden 0", "wants w", "routine f open", "same box.0 2 else 1", f"tell {n}",
                                "same box.0 1 else 1", "set box.0 2", "same box.0 0 else 1", "set box.0 1", "call g it",
                                "routine g hidden", "call w it", "set box.0 0") for n in (0, 1)]
        self.noticed(elder, newer, "loaded", Manners.of("within"))
        # The turns of one name are not those of another one.
        elder, newer = [edition("cell p hidden 0", "wants w", "wants v", "routine f open", "call w 1", "call v 1",
                                "call w 1", "same p.0 4 else 1", f"tell {n}", "routine put open", "set p.0 it")
                        for n in (0, 1)]
        self.noticed(elder, newer, "loaded", Manners.of("within"))
        self.noticed(elder, newer, "loaded", NONE)

    def test_by_chance(self):
        chance = random.Random(151)
        costs = {}
        for elder, newer, moment, manners in questions(chance, 2500):
            client = self.check(elder, newer, moment, manners)
            cost = None if client is None else judge(elder, newer, moment, manners).cost
            costs[cost] = costs.get(cost, 0) + 1
        self.assertGreater(min(costs.get(cost, 0) for cost in (None, 0, 1, 2, 3)), 5)

    def test_verdicts_are_not_changed(self):
        elder, newer = edition("routine f open", "tell 1"), edition("routine f open", "tell 2")
        verdict = judge(elder, newer, "loaded", NONE)
        told = (verdict.clue, list(verdict.floor), elder.text())
        written(verdict)
        self.assertEqual((verdict.clue, verdict.floor, verdict.elder.text()), told)
        self.assertEqual(Edition.read(elder.text()), verdict.elder)


if __name__ == "__main__":
    unittest.main()
