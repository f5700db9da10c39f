"""Where an edition's calls go beside a client (4.3, 4.6)."""

import unittest

from quietedition.scope import Scope, landed
from tests.making import edition

LIB = edition(
    "wants w", "first one", "call w 1", "call plain 2", "tell 1", "call many 3",
    "routine plain open", "call many it at 1", "routine many guarded at 1", "call many it at 2",
    "routine many open at 2 default", "call lone it at 3", "routine lone hidden at 3", "end", "first two", "end")
OPEN = edition("wants w", "routine all open at 1", "end", "routine all open at 2 default", "end",
               "routine use hidden", "call all it at 1", "routine start hidden", "call use it")


class Landed(unittest.TestCase):
    def test_every_tag(self):
        made = edition("wants w", "routine a open", "end", "routine b guarded at 1", "end",
                       "routine b open at 3 default", "end", "routine b hidden at 9", "end")
        told = {name: [landed(made, name, tag) for tag in range(10)] for name in ("a", "b", "w", "none")}
        self.assertEqual(told["a"], [0] + [None] * 9)
        self.assertEqual(told["b"], [3, 1, None, 3] + [None] * 6)
        self.assertEqual(told["w"], [None] * 10)
        self.assertEqual(told["none"], [None] * 10)

    def test_hidden_members(self):
        made = edition("routine a hidden", "end", "routine b hidden at 1 default", "end", "routine b open at 2", "end")
        self.assertEqual([landed(made, "a", 0), landed(made, "b", 0), landed(made, "b", 1)], [None] * 3)
        self.assertEqual(landed(edition=made, name="b", noted=2), 2)

    def test_without_a_default(self):
        made = edition("routine a open at 4", "end")
        self.assertEqual([landed(made, "a", 0), landed(made, "a", 4)], [None, 4])


class Reach(unittest.TestCase):
    def told(self, made, given, name):
        scope = Scope(made, given)
        return [(scope.reach(name, tag), scope.why(name, tag)) for tag in range(10)]

    def test_wanted(self):
        for given in ([], ["w"], ["x", "w"]):
            self.assertEqual(self.told(LIB, given, "w"), [(("client", "w"), "wanted")] + [(None, None)] * 9)

    def test_untagged(self):
        for access in ("open", "guarded", "hidden"):
            made = edition(f"routine f {access}", "end")
            inside = [(("edition", "f", 0), access)] + [(None, None)] * 9
            self.assertEqual(self.told(made, [], "f"), inside)
            self.assertEqual(self.told(made, ["g"], "f"), inside)
            outside = [(("client", "f"), "taken")] + [(None, None)] * 9
            self.assertEqual(self.told(made, ("f",), "f"), outside if access == "open" else inside)

    def test_tagged(self):
        for access in ("open", "guarded", "hidden"):
            for has_default in (True, False):
                made = edition(f"routine f {access} at 4" + (" default" if has_default else ""), "end")
                for given in ([], ["f"]):
                    here = (("edition", "f", 4), access)
                    if given and access == "open":
                        here = (("client", "f"), "taken")
                    wanted = [here if tag == 4 or (tag == 0 and has_default) else (None, None) for tag in range(10)]
                    self.assertEqual(self.told(made, given, "f"), wanted)

    def test_members_of_one_name_by_themselves(self):
        scope = Scope(LIB, ["many", "lone", "plain"])
        self.assertEqual(scope.reach("many"), ("client", "many"))
        self.assertEqual(scope.reach("many", 2), ("client", "many"))
        self.assertEqual(scope.reach("many", 1), ("edition", "many", 1))
        self.assertEqual(scope.why("many", tag=1), "guarded")
        self.assertEqual(scope.why(name="lone", tag=3), "hidden")
        self.assertEqual((scope.reach("lone"), scope.why("lone")), (None, None))
        self.assertEqual((scope.reach("none"), scope.why("none")), (None, None))
        self.assertEqual(scope.why("plain"), "taken")

    def test_all_open_members_are_taken_over(self):
        scope = Scope(OPEN, ["all"])
        self.assertEqual([scope.reach("all", tag) for tag in (0, 1, 2, 3)], [("client", "all")] * 3 + [None])


class Targets(unittest.TestCase):
    def test_targets(self):
        rows = [
            (("first", "one"), 0, "w", 0, ("client", "w"), "wanted"),
            (("first", "one"), 1, "plain", 0, ("client", "plain"), "taken"),
            (("first", "one"), 3, "many", 0, ("edition", "many", 2), "open"),
            (("routine", "plain", 0), 0, "many", 1, ("edition", "many", 1), "guarded"),
            (("routine", "many", 1), 0, "many", 2, ("edition", "many", 2), "open"),
            (("routine", "many", 2), 0, "lone", 3, ("edition", "lone", 3), "hidden"),
        ]
        scope = Scope(LIB, ("plain", "lone"))
        self.assertEqual(scope.targets(), rows)
        self.assertEqual(scope.entered(), ["plain", "w"])
        self.assertEqual(Scope(LIB, []).entered(), ["w"])
        self.assertEqual(Scope(LIB, ["many", "w"]).entered(), ["many", "w"])
        self.assertEqual(Scope(OPEN, ["all"]).entered(), ["all"])
        self.assertEqual(Scope(edition(), ["all"]).targets(), [])
        self.assertEqual(Scope(edition(), ["all"]).entered(), [])

    def test_told_twice(self):
        given = ["plain", "plain", "b"]
        scope = Scope(edition=LIB, given=given)
        given.append("many")
        self.assertEqual(scope.given, ("b", "plain"))
        self.assertEqual(scope.edition, LIB)
        targets, entered = scope.targets(), scope.entered()
        wanted = (list(targets), list(entered))
        targets.clear()
        entered.append("x")
        self.assertEqual((scope.targets(), scope.entered()), wanted)
        self.assertEqual([scope.reach("many"), scope.reach("many")], [("edition", "many", 2)] * 2)
        self.assertEqual([scope.why("plain"), scope.why("plain")], ["taken"] * 2)


if __name__ == "__main__":
    unittest.main()
