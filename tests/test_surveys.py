"""Surveys (9.3 to 9.5, 9.7)."""

import random
import unittest

from quietedition.errors import BadMoment, TooMany
from quietedition.families import barring, complements, greatest, is_antichain, least, parts
from quietedition.judging import manners_of
from quietedition.manners import Manners
from quietedition.surveys import survey
from quietedition.trials import Trial
from quietedition.units import Client
from quietedition.verdicts import judge
from quietedition.world import Moment
from quietedition.writing import written
from tests.making import edition, some_edition, changed
from tests.questions import ALL, NONE, NO_MOMENTS, question, questions

LINES = ("cell p open 0", "routine f open", "set p.0 it", "routine g open at 1 default", "end")
ELDER = edition(*LINES, "routine g open at 2", "tell 1")
NEWER = edition(*LINES, "routine g open at 2", "tell 2")
# A look at p notices behind one call of f, and a tagged call of g does.
LOOKING = edition("cell p open 0", "routine f open", "end", "routine g open at 1 default", "end", "routine g open at 2",
                  "tell 2")


def texts(sets):
    return [str(one) for one in sets]


class Example(unittest.TestCase):
    def test_least_and_greatest(self):
        made = survey(elder=ELDER, newer=LOOKING, moment="linked", among=None)
        self.assertEqual((made.elder, made.newer, made.moment, made.among), (ELDER, LOOKING, "linked", ALL))
        self.assertEqual(texts(made.least_noticing), ["straight", "tags"])
        self.assertEqual(texts(made.greatest_quiet), ["asks free over shows within"])
        self.assertEqual(made.lines(), ["noticed   1  straight", "noticed   1  tags",
                                        "quiet        asks free over shows within"])

    def test_quiet_and_noticed_by_all(self):
        made = survey(ELDER, ELDER, "loaded")
        self.assertEqual((made.least_noticing, made.greatest_quiet, made.clients()), ([], [ALL], []))
        self.assertEqual(made.lines(), ["quiet        asks free over shows straight tags within"])
        made = survey(edition(), edition("wants w"), "loaded")
        self.assertEqual((made.least_noticing, made.greatest_quiet), ([NONE], []))
        self.assertEqual(made.lines(), ["noticed   0  none"])
        self.assertEqual(len(made.clients()), 1)

    def test_among(self):
        for among, noticing, quiet in ((NONE, [], ["none"]), (Manners.of("tags"), ["tags"], ["none"]),
                                       (Manners.of("asks"), [], ["asks"]),
                                       (Manners.of("asks", "straight", "tags"), ["straight", "tags"], ["asks"])):
            made = survey(ELDER, LOOKING, "linked", among=among)
            self.assertEqual(made.among, among)
            self.assertEqual((texts(made.least_noticing), texts(made.greatest_quiet)), (noticing, quiet))
        with self.assertRaises(TypeError):
            survey(ELDER, LOOKING, "linked", NONE)

    def test_manners_that_among_has_not(self):
        made = survey(ELDER, LOOKING, "linked", among=Manners.of("asks", "straight"))
        self.assertIs(made.quiet(manners=Manners.of("tags", "asks")), True)
        self.assertIs(made.quiet(ALL), False)
        self.assertIs(made.quiet(NONE), True)
        verdict = made.verdict(manners=Manners.of("tags", "asks"))
        self.assertEqual((verdict.manners, verdict.is_quiet), (Manners.of("asks"), True))
        self.assertIsNone(made.client(manners=Manners.of("tags", "asks")))
        verdict = made.verdict(ALL)
        self.assertEqual((verdict.manners, verdict.is_quiet), (Manners.of("asks", "straight"), False))
        self.assertEqual(made.client(ALL), written(verdict))
        self.assertEqual(made.client(ALL), made.client(Manners.of("asks", "straight", "over")))

    def test_clients(self):
        made = survey(ELDER, LOOKING, "loaded")
        clients = made.clients()
        self.assertEqual([manners_of(client, ELDER, LOOKING) for client in clients], made.least_noticing)
        self.assertEqual(clients, made.clients())
        self.assertIsInstance(clients[0], Client)

    def test_lists_are_new(self):
        made = survey(ELDER, LOOKING, "linked")
        for action in (lambda: made.least_noticing, lambda: made.greatest_quiet, made.clients, made.lines):
            before = action()
            action().clear()
            self.assertEqual(action(), before)
        made.least_noticing.append(NONE)
        self.assertTrue(made.quiet(NONE))

    def test_two_manners_at_once(self):
        """The door's tag alone tells nothing: the client that notices has both manners, or a third one."""
        elder, newer = [edition("cell p hidden 0", "wants w", "routine f open at 1", f"same p.0 {n} else 1", "tell 5",
                                "routine back open", "call w 5", "set p.0 5") for n in (5, 6)]
        put = ("routine put open at 2", "set p.0 it")
        elder, newer = [edition(*part.text().split("\n")[1:], *put) for part in (elder, newer)]
        made = survey(elder, newer, "linked")
        self.assertEqual(made.lines(), ["noticed   2  tags", "quiet        asks free over shows straight within"])
        elder, newer = [edition("routine a open", "end",
                                "routine b open at 1", f"call a {n}") for n in (0, 1)]
        made = survey(elder, newer, "linked")
        self.assertEqual(made.lines(), ["noticed   1  over tags", "quiet        asks free over shows straight within",
                                        "quiet        asks free shows straight tags within"])

    def test_columns(self):
        def many(told):
            return edition("wants w", "first go", *["call mid 1"] * 2, "routine mid hidden", *["call w 1"] * 5,
                           "routine tell open", f"tell {told}")
        self.assertEqual(survey(many(0), many(1), "loaded", among=NONE).lines(), ["noticed  11  none"])
        self.assertEqual(survey(many(0), many(1), "loaded").lines(), ["noticed  11  none"])
        self.assertEqual(survey(many(0), many(0), "loaded", among=NONE).lines(), ["quiet        none"])


class HoldsFor(unittest.TestCase):
    def test_holds_for(self):
        none, tags, all_of_them = [survey(elder, newer, "linked") for elder, newer in (
            (ELDER, ELDER), (ELDER, NEWER), (ELDER, edition("wants w")))]
        both = survey(ELDER, LOOKING, "linked")
        rank = [none, tags, both, all_of_them]
        for one in range(4):
            for other in range(4):
                self.assertIs(rank[one].holds_for(other=rank[other]), one >= other)

    def test_by_chance(self):
        chance = random.Random(181)
        made = []
        for elder, newer, moment, _ in questions(chance, 80):
            try:
                made.append(survey(elder, newer, moment, among=ALL - Manners.of("within")))
            except TooMany:
                continue
        for one in made:
            for other in made[:25]:
                wanted = all(other.quiet(part) for part in parts(one.among) if one.quiet(part))
                self.assertIs(one.holds_for(other), wanted)


class Errors(unittest.TestCase):
    def what(self, *arguments, **more):
        try:
            survey(*arguments, **more)
        except TooMany as error:
            return error.what
        return None

    def test_bad_moments(self):
        many = edition("routine f open", "tell 1", "tell 2", "tell 3", "tell 4")
        for thing in NO_MOMENTS:
            for made in (ELDER, many):
                with self.assertRaises(BadMoment) as caught:
                    survey(made, made, thing)
                self.assertEqual(caught.exception.moment, thing)

    def test_too_many_for_among_itself(self):
        lines = ["cell p open 0 0", "routine a open", "end", "routine b open", "end", "routine c open", "end", "first f"]
        names = edition(*lines, "call a 1", "call b 1", "call c 1")
        numbers = edition(*lines, "call a 1", "call b 2", "call c 3", "tell 4")
        self.assertEqual(self.what(numbers, numbers, "linked"), "numbers")
        self.assertEqual(self.what(numbers, numbers, "linked", among=NONE), "numbers")
        self.assertEqual(self.what(names, names, "linked"), "names")
        self.assertEqual(self.what(names, names, "linked", among=ALL - Manners.of("over")), "places")
        self.assertIsNone(self.what(names, names, "linked", among=ALL - Manners.of("over", "within")))
        self.assertEqual(self.what(names, edition("wants w"), "linked"), "names")

    def many(self, told, last, *lines):
        """What is told costs 57 moves and `last` ones more."""
        return edition("wants w", "first go", *["call mid 1"] * 7, "call low 1", "routine mid hidden",
                       *["call w 1"] * 8, "routine low hidden", *["call w 1"] * last, *lines, f"tell {told}")

    def test_moves(self):
        tell = "routine tell open"
        self.assertIsNone(self.what(self.many(0, 3, tell), self.many(1, 3, tell), "loaded"))
        self.assertEqual(self.what(self.many(0, 4, tell), self.many(1, 4, tell), "loaded"), "moves")
        self.assertEqual(self.what(self.many(0, 4, tell), self.many(1, 4, tell), "loaded", among=NONE), "moves")
        self.assertIsNone(self.what(self.many(0, 4, tell), self.many(0, 4, tell), "loaded"))

    def test_moves_where_greater_sets_cost_less(self):
        """A least noticing set is too dear, though the verdict of all manners is not."""
        elder, newer = self.many(0, 4, "routine tell open"), self.many(1, 4, "routine tell open", "tell 1")
        opened = edition(*newer.text().split("\n")[1:], "routine more open", "end")
        asks = Manners.of("asks")
        self.assertLessEqual(judge(elder, opened, "loaded", asks).cost, 60)
        self.assertEqual(self.what(elder, opened, "loaded", among=asks), "moves")
        self.assertEqual(self.what(elder, opened, "loaded"), "moves")

    def test_moves_of_a_set_that_is_no_least_one(self):
        """At a call back of the loading a client with `asks` notices; one with `tags` alone only behind 61 moves."""
        lines = ("routine tell open at 2",)
        elder, newer = self.many(0, 4, *lines), self.many(1, 4, *lines)
        tags = Manners.of("tags")
        self.assertEqual(self.what(elder, newer, "loaded", among=tags), "moves")
        self.assertIsNone(self.what(elder, newer, "loaded", among=ALL - tags))
        more = edition(*newer.text().split("\n")[1:], "routine more open", "end")
        self.assertEqual(self.what(elder, more, "loaded", among=Manners.of("asks", "tags")), "moves")
        self.assertIsNone(self.what(elder, more, "loaded", among=Manners.of("asks")))


class AgainstVerdicts(unittest.TestCase):
    def steps(self, chance, count):
        """Steps by chance with more than one change."""
        for _ in range(count):
            elder = some_edition(chance, most_rows=5)
            newer = changed(chance, changed(chance, elder))
            moment = chance.choice(Moment.ALL)
            if (question(elder, newer, moment, NONE) or judge(ELDER, edition("wants w"), moment, NONE)).is_quiet:
                yield elder, newer, moment

    def test_all_parts(self):
        """Each part against its own verdict; the two families tell each other; clients with exactly their manners."""
        chance = random.Random(182)
        sizes = {}
        for elder, newer, moment in self.steps(chance, 200):
            among = ALL - Manners([name for name in Manners.ALL if chance.randrange(4) == 0])
            told = {str(part): question(elder, newer, moment, part) for part in parts(among)}
            try:
                made = survey(elder, newer, moment, among=among)
            except TooMany as error:
                try:
                    judge(elder, newer, moment, among)
                except TooMany as other:
                    self.assertEqual(error.what, other.what)
                else:
                    self.assertEqual(error.what, "moves")
                self.assertIn(None, told.values())
                continue
            self.assertNotIn(None, told.values())
            noticed = [part for part in parts(among) if not told[str(part)].is_quiet]
            quiet = [part for part in parts(among) if told[str(part)].is_quiet]
            self.assertEqual((made.least_noticing, made.greatest_quiet), (least(noticed), greatest(quiet)))
            self.assertTrue(is_antichain(made.least_noticing) and is_antichain(made.greatest_quiet))
            self.assertEqual(complements(barring(made.least_noticing, among), among), made.greatest_quiet)
            self.assertEqual(barring(complements(made.greatest_quiet, among), among), made.least_noticing)
            for part in parts(among):
                self.assertIs(made.quiet(part), told[str(part)].is_quiet)
            rows = [f"noticed {told[str(part)].cost:3}  {part}" for part in made.least_noticing]
            self.assertEqual(made.lines(), rows + [f"quiet        {part}" for part in made.greatest_quiet])
            sizes[len(made.least_noticing)] = sizes.get(len(made.least_noticing), 0) + 1
            for part, client in zip(made.least_noticing, made.clients()):
                trial = Trial(client, elder, newer, moment)
                self.assertTrue(trial.is_noticing)
                self.assertEqual((trial.manners, trial.moves()), (part, told[str(part)].cost))
                self.assertEqual(client, made.client(part))
        self.assertGreater(min(sizes.get(size, 0) for size in (0, 1, 2)), 3)

    def test_all_moments_have_surveys(self):
        chance = random.Random(183)
        elder = some_edition(chance)
        for moment in Moment.ALL:
            self.assertEqual(survey(elder, changed(chance, elder), moment, among=NONE).moment, moment)


if __name__ == "__main__":
    unittest.main()
