"""Mends (10.8 to 10.10)."""

import itertools
import random
import unittest

from quietedition.checking import is_table
from quietedition.editions import Edition
from quietedition.errors import BadMend, BadMoment, BadText, TooMany
from quietedition.judging import manners_of
from quietedition.manners import Manners
from quietedition.mends import Mends, least_mends, mended
from quietedition.runs import is_served
from quietedition.trials import Trial
from quietedition.verdicts import judge
from quietedition.world import Moment
from quietedition.writing import written
from tests.making import changed, edition, some_edition
from tests.mending import Unknown, mended_lines, some_mend
from tests.questions import ALL, NO_MOMENTS, NONE

ELDER = edition("number a 1", "cell p open 3", "routine f open", "tell 1", "routine g open", "end")
NEWER = edition("number a 2", "cell p open 3", "routine f open", "tell 2", "routine h open", "end")
MANY = edition("routine f open", "tell 1", "tell 2", "tell 3", "tell 4")


class Mended(unittest.TestCase):
    def test_all_mends_in_order(self):
        made = mended(elder=ELDER, newer=NEWER, lines=["number a", "member f 0", "hide h", "member g 0"])
        self.assertEqual(made, edition("number a 1", "cell p open 3", "routine f open", "tell 1", "routine h hidden", "end",
                                       "routine g open", "end"))
        self.assertEqual(mended(ELDER, NEWER, []), NEWER)
        self.assertEqual(mended(ELDER, NEWER, ()), NEWER)
        self.assertEqual(mended(ELDER, NEWER, ["hide f", "open f"]), NEWER)

    def test_errors(self):
        for lines, at, cause in ((["guard f", "hide", "hide none"], 1, "words"), (["guard f", "hide none", None], 1, "unknown"),
                                 (["forward f g", "wants f"], 2, "wanted"), (["forward f g", "hide h"], 2, "twice"), (["wants f"], 1, "wanted"), ([None], 0, "words"),
                                 (["member f 0", "forward x y", "hide q"], 2, "unknown"), (["forward x y"], 1, "unknown")):
            with self.assertRaises(BadMend) as caught:
                mended(ELDER, NEWER, lines)
            self.assertEqual((caught.exception.at, caught.exception.cause), (at, cause))


class Pools(unittest.TestCase):
    def test_none(self):
        made = least_mends(elder=ELDER, newer=NEWER, moment="linked", manners=NONE, pool=[])
        self.assertIsInstance(made, Mends)
        self.assertEqual((made.good, made.least, made.broken), ([], [], {}))
        self.assertEqual(made.failing, {(): written(judge(ELDER, NEWER, "linked", NONE))})
        self.assertIs(made.is_monotone, True)
        made = least_mends(ELDER, ELDER, "linked", ALL, [])
        self.assertEqual((made.good, made.least, made.failing, made.broken), ([()], [()], {}, {}))

    def test_good_failing_and_broken(self):
        pool = ["member f 0", "member g 0", "hide none", "hide f"]
        made = least_mends(ELDER, NEWER, "linked", NONE, pool)
        self.assertEqual(made.good, [(0, 1)])
        self.assertEqual(made.least, [(0, 1)])
        self.assertEqual(list(made.failing), [(), (0,), (1,), (3,), (0, 3), (1, 3), (0, 1, 3)])
        self.assertEqual(list(made.broken), [(2,), (0, 2), (1, 2), (2, 3), (0, 1, 2), (0, 2, 3), (1, 2, 3), (0, 1, 2, 3)])
        self.assertEqual(set(made.broken.values()), {"unknown"})
        self.assertIs(made.is_monotone, False)
        for places, client in made.failing.items():
            newer = mended(ELDER, NEWER, [pool[at] for at in places])
            self.assertEqual(client, written(judge(ELDER, newer, "linked", NONE)))

    def test_monotone(self):
        made = least_mends(ELDER, NEWER, "linked", NONE, ["member f 0", "member g 0", "guard h"])
        self.assertEqual((made.good, made.least), ([(0, 1), (0, 1, 2)], [(0, 1)]))
        self.assertIs(made.is_monotone, True)
        made = least_mends(ELDER, NEWER, "linked", NONE, ["member f 0", "member g 0", "hide g"])
        self.assertEqual((made.good, made.is_monotone), ([(0, 1)], False))
        self.assertIn((0, 1, 2), made.failing)
        made = least_mends(ELDER, NEWER, "linked", NONE, ["member f 0", "member g 0", "wants f"])
        self.assertEqual((made.good, made.is_monotone), ([(0, 1)], False))
        self.assertEqual(made.broken[(0, 1, 2)], "wanted")

    def test_several_least_sets_and_equal_lines(self):
        newer = edition("routine f open", "tell 1")
        elder = edition("routine f open", "tell 1", "routine g open", "tell 1")
        made = least_mends(elder, newer, "linked", NONE, ["member g 0", "forward g f", "member g 0"])
        self.assertEqual(made.good, [(0,), (1,), (2,), (0, 2), (1, 2)])
        self.assertEqual(made.least, [(0,), (1,), (2,)])
        self.assertEqual((list(made.failing), made.broken), ([()], {(0, 1): "twice", (0, 1, 2): "twice"}))
        self.assertIs(made.is_monotone, False)

    def test_the_order_of_the_sets(self):
        chance = random.Random(231)
        made = least_mends(ELDER, NEWER, "linked", NONE, ["guard f", "open f", "guard h", "open h"])
        wanted = [places for count in range(5) for places in itertools.combinations(range(4), count)]
        self.assertEqual(list(made.failing), wanted)
        made = least_mends(ELDER, ELDER, "linked", NONE, chance.sample(["guard f", "open f", "guard g", "open g"], 4))
        self.assertEqual(made.good, wanted)
        self.assertEqual(made.least, [()])

    def test_tuples_and_other_pools(self):
        one = least_mends(ELDER, NEWER, "linked", NONE, ("member f 0", "member g 0"))
        self.assertEqual(one.good, [(0, 1)])
        pool = ["member f 0", "member g 0"]
        made = least_mends(ELDER, NEWER, "linked", NONE, pool)
        pool.clear()
        self.assertEqual(made.good, [(0, 1)])


class Errors(unittest.TestCase):
    def raised(self, elder, newer, moment, pool, manners=ALL):
        try:
            least_mends(elder, newer, moment, manners, pool)
        except BadMend as error:
            return ("mend", error.at, error.cause)
        except BadMoment as error:
            return ("moment", error.moment)
        except TooMany as error:
            return ("many", error.what)
        return None

    def test_each_ahead_of_the_next_one(self):
        self.assertEqual(self.raised(MANY, MANY, "no", ["hide"] * 5), ("mend", 4, "many"))
        self.assertEqual(self.raised(MANY, MANY, "no", ["hide f"] * 5), ("mend", 4, "many"))
        self.assertEqual(self.raised(MANY, MANY, "no", [None] * 6), ("mend", 4, "many"))
        self.assertEqual(self.raised(MANY, MANY, "no", ["hide f", "hide", None]), ("mend", 1, "words"))
        for thing in NO_MOMENTS:
            self.assertEqual(self.raised(MANY, MANY, thing, ["hide f", "hide none"]), ("moment", thing))
            self.assertEqual(self.raised(ELDER, NEWER, thing, []), ("moment", thing))
        self.assertEqual(self.raised(MANY, MANY, "linked", ["hide f", "hide none"]), ("many", "numbers"))
        self.assertIsNone(self.raised(ELDER, NEWER, "linked", ["hide f"] * 4))

    def test_a_bad_moment_where_all_sets_are_broken(self):
        full = edition("routine f open", "end")
        self.assertEqual(self.raised(full, full, "no", ["forward f g"]), ("moment", "no"))

    def test_no_form(self):
        for thing in (None, 3, True, ["hide f"], ("hide f",), "", "hide", "hide f ", "default f 0", "hide f g"):
            for at in range(4):
                pool = ["hide f"] * at + [thing] + [None] * (3 - at)
                self.assertEqual(self.raised(ELDER, NEWER, "linked", pool), ("mend", at, "words"))

    def test_the_first_set_that_raises(self):
        """One mend makes three chosen names, the other one four places."""
        elder = edition("cell p open 0 0", "routine f open", "end", "routine g open", "end", "first x", "call f 1",
                        "call g 1")
        newer = edition(*elder.text().split("\n")[2:])
        manners = Manners.of("free", "over", "within")
        for pool, what in (([], None), (["wants u"], "names"), (["cell p"], "places"), (["wants u", "cell p"], "names"),
                           (["cell p", "wants u"], "places"), (["hide none", "cell p", "wants u"], "places"),
                           (["hide none", "wants u", "cell p"], "names"), (["wants f", "cell p"], "places"),
                           (["wants f", "hide f"], None)):
            self.assertEqual(self.raised(elder, newer, "linked", pool, manners), what and ("many", what), pool)
        # The empty set needs a verdict, whatever else comes.
        self.assertEqual(self.raised(elder, edition("cell p open 0 0"), "linked", ["wants u"], manners), ("many", "places"))
        self.assertEqual(self.raised(elder, edition("wants u"), "linked", ["cell p"], manners), ("many", "names"))

    def test_sets_that_are_broken_need_no_verdict(self):
        """They raise nothing, whatever a verdict would raise."""
        elder = edition("cell p open 0 0", "routine f open", "end")
        newer = edition("routine f open", "end")
        within = Manners.of("within")
        self.assertIsNone(self.raised(elder, newer, "linked", ["wants f"], within))
        made = least_mends(elder, newer, "linked", within, ["wants f", "hide none"])
        self.assertEqual((made.good, made.broken), ([()], {(0,): "wanted", (1,): "unknown", (0, 1): "unknown"}))
        # The cell alone would bring too many places; here no set has it without a mend that breaks the text.
        self.assertEqual(self.raised(elder, newer, "linked", ["cell p"], within), ("many", "places"))
        mixed = edition("cell p hidden 0 0", "routine f open", "end")
        self.assertEqual(self.raised(elder, mixed, "linked", ["wants f"], within), ("many", "places"))


class ByChance(unittest.TestCase):
    def test_mended_editions_against_their_verdicts(self):
        chance = random.Random(232)
        seen = {"good": 0, "failing": 0, "broken": 0, True: 0, False: 0}
        for _ in range(250):
            elder = some_edition(chance, most_rows=4)
            newer = changed(chance, elder)
            pool = [some_mend(chance, elder, newer) for _ in range(chance.randrange(5))]
            moment = chance.choice(Moment.ALL)
            manners = Manners([name for name in Manners.ALL if chance.randrange(2)])
            try:
                made = least_mends(elder, newer, moment, manners, pool)
            except TooMany:
                continue
            good, failing, broken = [], {}, {}
            for count in range(len(pool) + 1):
                for places in itertools.combinations(range(len(pool)), count):
                    lines = newer.text().split("\n")
                    try:
                        for at in places:
                            lines = mended_lines(elder.text().split("\n"), lines, pool[at])
                        result = Edition.read("\n".join(lines))
                    except Unknown:
                        broken[places] = "unknown"
                        continue
                    except BadText as wrong:
                        broken[places] = wrong.cause
                        continue
                    verdict = judge(elder, result, moment, manners)
                    if verdict.is_quiet:
                        good.append(places)
                        self.assertTrue(is_table(elder, result, moment, manners, verdict.table))
                        continue
                    failing[places] = written(verdict)
                    self.assertTrue(is_served(failing[places], elder))
                    self.assertTrue(manners_of(failing[places], elder, result).is_part_of(manners))
                    self.assertTrue(Trial(failing[places], elder, result, moment).is_noticing)
            self.assertEqual((made.good, made.failing, made.broken), (good, failing, broken))
            self.assertEqual((list(made.failing), list(made.broken)), (list(failing), list(broken)))
            self.assertEqual(made.least, [one for one in good if not any(set(other) < set(one) for other in good)])
            others = list(failing) + list(broken)
            monotone = not any(set(one) <= set(other) for one in good for other in others)
            self.assertIs(made.is_monotone, monotone)
            seen[monotone] += 1
            seen["good"] += len(good)
            seen["failing"] += len(failing)
            seen["broken"] += len(broken)
        self.assertGreater(min(seen.values()), 10)


if __name__ == "__main__":
    unittest.main()
