"""What the document promises over the whole program, from texts to the end ([2], [3])."""

import random
import unittest

from quietedition.chains import breaks, broken
from quietedition.checking import is_clue, is_floor, is_table
from quietedition.cutting import cut
from quietedition.editions import Edition
from quietedition.errors import BadMend, BadMoment, TooMany
from quietedition.families import parts
from quietedition.houses import House
from quietedition.judging import manners_of
from quietedition.manners import Manners
from quietedition.mends import least_mends, mended
from quietedition.moments import all_moments, moments_quiet
from quietedition.runs import is_served, outcome
from quietedition.surveys import survey
from quietedition.trials import Trial, noticed_at
from quietedition.units import Client
from quietedition.verdicts import judge
from quietedition.world import Moment, worlds
from quietedition.writing import written
from tests.making import changed, some_client, some_edition
from tests.questions import ALL, question

ELDER = """edition lamp1
number most 3
cell level hidden 0
wants blink
routine turn open
set level.0 it
same level.0 #most else 1
call blink #most
routine ask open
tell level.0"""


def text_with(old, new, text=ELDER):
    return text.replace(old, new).replace("lamp1", "lamp2")


class Lamp(unittest.TestCase):
    """One library from its texts to its mends."""

    ELDER = Edition.read(ELDER)

    def newer(self, old, new):
        return Edition.read(text_with(old, new))

    def test_written_otherwise(self):
        newer = self.newer("same level.0 #most else 1\ncall blink #most", "same it 3 else 2\ncall blink level.0\nend")
        for moment in Moment.ALL:
            made = survey(self.ELDER, newer, moment)
            self.assertEqual(made.lines(), ["quiet        asks free over shows straight tags within"])
            self.assertTrue(is_table(self.ELDER, newer, moment, ALL, made.verdict(ALL).table))

    def test_another_number(self):
        newer = self.newer("number most 3", "number most 4")
        for made in all_moments(self.ELDER, newer).values():
            self.assertEqual(made.lines(), ["noticed   1  none"])
        verdict = judge(self.ELDER, newer, "linked", Manners.of())
        self.assertEqual(verdict.cost, 1)
        self.assertEqual(verdict.clue[2][1][3], ("number", 3))
        client = cut(written(verdict), self.ELDER, newer, "linked")
        self.assertEqual(noticed_at(client, self.ELDER, newer), Moment.ALL)

    def test_another_number_that_only_clients_name(self):
        newer = Edition.read(text_with("number most 3", "number most 4").replace("#most", "3"))
        told = all_moments(self.ELDER, newer)
        self.assertEqual(told["assembled"].lines(), ["noticed   1  none"])
        self.assertEqual(told["linked"].greatest_quiet, [ALL])
        self.assertEqual(told["loaded"].greatest_quiet, [ALL])
        self.assertEqual(moments_quiet(self.ELDER, newer, Manners.of()), (False, True, True))
        self.assertIn("call turn #most", written(told["assembled"].verdict(Manners.of())).texts()[0])

    def test_mends(self):
        newer = self.newer("number most 3", "number most 4")
        made = least_mends(self.ELDER, newer, "loaded", ALL, ["guard ask", "number most", "hide turn"])
        self.assertEqual(made.least, [(1,)])
        self.assertEqual(made.good, [(1,), (0, 1)])
        self.assertIs(made.is_monotone, False)
        self.assertEqual(mended(self.ELDER, newer, ["number most"]).text().split("\n")[1:], ELDER.split("\n")[1:])

    def test_a_house(self):
        middle = Edition.read(ELDER.replace("lamp1", "lamp2").replace("turn open", "turn guarded"))
        last = Edition.read(ELDER.replace("lamp1", "lamp3").replace("tell level.0", "tell level.0\nend"))
        house = House([self.ELDER, middle, last])
        for moment in Moment.ALL:
            self.assertEqual(set(house.matrix(moment, ALL).values()), {True})
            self.assertEqual(house.eldest(moment, ALL), [0, 0, 0])
            self.assertEqual(breaks(house, moment, ALL), [])


class Promise(unittest.TestCase):
    def test_each_verdict_leads_to_its_table_or_its_client(self):
        """For every two editions, every moment and a survey's worth of manners."""
        chance = random.Random(241)
        count = {True: 0, False: 0}
        for _ in range(60):
            elder = some_edition(chance, most_rows=4)
            newer = changed(chance, elder)
            for moment in Moment.ALL:
                try:
                    made = survey(elder, newer, moment)
                except TooMany:
                    continue
                for part in parts(ALL)[::5] + made.least_noticing + made.greatest_quiet:
                    verdict = judge(elder, newer, moment, part)
                    count[verdict.is_quiet] += 1
                    self.assertIs(made.quiet(part), verdict.is_quiet)
                    client = made.client(part)
                    if verdict.is_quiet:
                        self.assertIsNone(client)
                        self.assertTrue(is_table(elder, newer, moment, part, verdict.table))
                        continue
                    self.assertTrue(is_clue(elder, newer, moment, part, verdict.clue))
                    if verdict.clue[0] == "game":
                        self.assertTrue(is_floor(elder, newer, moment, part, verdict.cost, verdict.floor))
                        self.assertFalse(is_floor(elder, newer, moment, part, verdict.cost + 1, verdict.floor))
                    trial = Trial(Client.of(*client.texts()), elder, newer, moment)
                    self.assertTrue(trial.is_noticing and trial.manners.is_part_of(part))
                    self.assertEqual(trial.moves(), verdict.cost)
        self.assertGreater(min(count.values()), 300)

    def test_quiet_when_assembled_is_quiet_when_linked(self):
        chance = random.Random(242)
        for _ in range(250):
            elder = some_edition(chance, most_rows=4)
            newer = changed(chance, elder)
            told = [question(elder, newer, moment, ALL - Manners.of("within")) for moment in Moment.ALL]
            if told[0] is not None and told[1] is not None and told[0].is_quiet:
                self.assertTrue(told[1].is_quiet)

    def test_a_client_notices_only_what_is_noticed(self):
        """Clients by chance, at all moments, against the verdict for their own manners; cut ones, too."""
        chance = random.Random(243)
        count = 0
        for _ in range(500):
            elder = some_edition(chance)
            newer = changed(chance, elder)
            client = some_client(chance, elder, newer)
            for moment in noticed_at(client, elder, newer):
                self.assertTrue(is_served(client, elder))
                small = cut(client, elder, newer, moment, limit=100) if count < 40 else client
                for part in (client, small):
                    verdict = question(elder, newer, moment, manners_of(part, elder, newer))
                    if verdict is not None:
                        self.assertFalse(verdict.is_quiet)
                        self.assertLessEqual(verdict.cost, Trial(part, elder, newer, moment).moves())
                        count += 1
        self.assertGreater(count, 80)

    def test_a_house_from_mends(self):
        """An edition that is mended step by step, against the verdicts of its steps and of the whole."""
        chance = random.Random(244)
        checked = 0
        for _ in range(120):
            elder = some_edition(chance, "a", 3)
            newer = changed(chance, elder, "b")
            pool = [f"member {member.name} {member.tag}" for member in elder.members] + [
                f"number {name}" for name in elder.numbers] + [f"cell {name}" for name in elder.cells]
            try:
                last = mended(elder, newer, pool)
            except BadMend:
                continue
            last = Edition.read(last.text().replace("edition b", "edition c"))
            house = House([elder, newer, last])
            moment = chance.choice(Moment.ALL)
            try:
                matrix = house.matrix(moment, ALL)
            except TooMany:
                continue
            self.assertEqual([part.chain for part in breaks(house, moment, ALL)], broken(matrix))
            for (i, j), client in house.clients(moment, ALL).items():
                first, second = worlds(house[i], house[j], moment)
                self.assertNotEqual(outcome(client, first), outcome(client, second))
            checked += 1
        self.assertGreater(checked, 30)


class General(unittest.TestCase):
    def test_equal_to_nothing_of_another_class(self):
        elder = Edition.read(ELDER)
        house = House([elder])
        verdict = judge(elder, elder, "linked", ALL)
        made = survey(elder, elder, "linked")
        trial = Trial(Client.of("unit u\nroutine blink\nend\nstart\nend"), elder, elder, "linked")
        things = [elder, house, verdict, made, trial, ALL, trial.client, least_mends(elder, elder, "linked", ALL, [])]
        for at, one in enumerate(things):
            for other in things[:at] + things[at + 1:] + [None, 0, True, "", (), [], elder.text(), ALL.names, [elder]]:
                self.assertFalse(one == other)
                self.assertTrue(one != other)

    def test_moments_that_are_lists_are_copied(self):
        elder = Edition.read(ELDER)
        thing = [["linked"], ("a", [1])]
        for action in (lambda: judge(elder, elder, thing, ALL), lambda: survey(elder, elder, thing),
                       lambda: House([elder]).matrix(thing, ALL), lambda: least_mends(elder, elder, thing, ALL, [])):
            with self.assertRaises(BadMoment) as caught:
                action()
            self.assertEqual(caught.exception.moment, thing)
            self.assertIsNot(caught.exception.moment, thing)
            self.assertIsNot(caught.exception.moment[1][1], thing[1][1])


if __name__ == "__main__":
    unittest.main()
