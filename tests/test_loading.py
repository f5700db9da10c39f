"""Loading and images (4.1, 4.3 to 4.7)."""

import random
import unittest

from quietedition.assembling import assemble_all
from quietedition.errors import QuietError
from quietedition.linking import link
from quietedition.loading import load
from quietedition.units import Client, Unit
from tests.making import changed, edition, image_by, linked_by, refusal, some_client, some_edition, unit

ELDER = edition("cell box open 1 2", "wants w", "routine a open", "end",
                "routine b guarded at 1 default", "call w it")


def refused(elder, newer, *texts):
    return refusal(load, linked_by(elder, *texts), newer)


class Checks(unittest.TestCase):
    def test_wanted(self):
        newer = edition("wants x", "wants y")
        client = unit("routine w", "end", "start", "tell box.0", "call a 1", "tell can.0")
        elder = edition("cell box open 1", "cell can open 1", "routine a open", "end")
        self.assertEqual(refused(elder, newer, client), ("NotLoaded", "wanted", "", "x"))
        self.assertEqual(refused(elder, edition("wants y", "wants x"), client), ("NotLoaded", "wanted", "", "y"))
        self.assertEqual(refused(elder, edition("wants w", "wants y"), client), ("NotLoaded", "wanted", "", "y"))
        self.assertEqual(refused(elder, edition("wants w"), client), ("NotLoaded", "name", "u", "a"))

    def test_an_inner_block_does_not_give(self):
        client = unit("inner w", "end", "start", "end")
        self.assertEqual(refused(edition(), edition("wants w"), client), ("NotLoaded", "wanted", "", "w"))

    def test_calls(self):
        elder = edition("routine a open", "end", "routine b open at 1", "end", "routine b open at 2 default", "end")
        client = unit("start", "end", "call b 1 at 1", "call a 1", "call b 1")
        cases = [
            ((), ("name", "b")),
            (("routine b hidden at 1", "end"), ("name", "b")),
            (("routine b hidden at 1", "end", "routine b open at 3", "end"), ("tag", "b")),
            (("routine b open", "end"), ("tag", "b")),
            (("routine b open at 1", "end"), ("name", "a")),
            (("routine b open at 1", "end", "routine a hidden", "end"), ("name", "a")),
            (("routine b open at 1", "end", "routine a open at 1", "end"), ("tag", "a")),
            (("routine b open at 1", "end", "routine a open at 5 default", "end"), ("tag", "b")),
            (("routine b open at 1", "end", "routine b hidden at 2", "end", "routine a guarded", "end"), ("tag", "b")),
        ]
        for lines, (cause, name) in cases:
            self.assertEqual(refused(elder, edition(*lines), client), ("NotLoaded", cause, "u", name), lines)
        fine = edition("routine b open at 1 default", "end", "routine b guarded at 2", "end",
                       "routine a guarded at 5 default", "end")
        self.assertIsNone(refused(elder, fine, client))

    def test_calls_that_stay_in_the_client(self):
        elder = edition("routine a open", "end", "routine b open", "end")
        client = unit("inner a", "end", "routine b", "end", "start", "call a 1", "call b 1 at 4")
        self.assertIsNone(refused(elder, edition(), client, "unit z"))

    def test_cells(self):
        elder = edition("cell box open 1 2")
        for place in ("box.0", "box.1"):
            client = unit("start", "end", f"set {place} 1")
            for lines, cause in (((), "cell"), (("cell box hidden 1 2",), "cell"), (("cell box open 1",), "size"),
                                 (("cell can open 1 2",), "cell")):
                self.assertEqual(refused(elder, edition(*lines), client), ("NotLoaded", cause, "u", "box"))
            self.assertIsNone(refused(elder, edition("cell box open 7 8"), client))
        small = edition("cell box open 1")
        self.assertEqual(refused(small, elder, unit("start", "tell box.0")), ("NotLoaded", "size", "u", "box"))

    def test_order(self):
        elder = edition("cell box open 1", "cell can open 1", "routine a open", "end", "routine b open", "end")
        one = "unit k\nstart\ntell can.0\ntell box.0\ncall b 1\ncall a 1"
        two = "unit b\ninner f\ncall a 1\ntell box.0"
        late = "unit a late\ninner f\ncall b 1\ntell box.0"
        both = edition("cell can open 1", "routine b open at 1", "end")
        self.assertEqual(refused(elder, edition(), one, two), ("NotLoaded", "name", "b", "a"))
        self.assertEqual(refused(elder, edition("routine a open", "end"), one, two), ("NotLoaded", "name", "k", "b"))
        self.assertEqual(refused(elder, both, one), ("NotLoaded", "tag", "k", "b"))
        self.assertEqual(refused(elder, edition(), late, one, two), ("NotLoaded", "name", "b", "a"))
        named = edition("routine a open", "end", "routine b open", "end")
        self.assertEqual(refused(elder, named, one, two), ("NotLoaded", "cell", "b", "box"))
        self.assertEqual(refused(elder, named, one, late), ("NotLoaded", "cell", "a", "box"))
        self.assertEqual(refused(elder, named, one), ("NotLoaded", "cell", "k", "can"))

    def test_late_units(self):
        elder = edition("cell box open 1", "routine a open", "end", "routine b open at 2", "end")
        calls = "unit u late\nstart\ncall a 1\ncall b 1 at 2"
        self.assertIsNone(refused(elder, edition(), calls))
        self.assertEqual(load(linked_by(elder, calls), edition()).lost(), [("u", "a", 0), ("u", "b", 2)])
        cells = calls + "\ntell box.0"
        self.assertEqual(refused(elder, edition(), cells), ("NotLoaded", "cell", "u", "box"))
        self.assertEqual(refused(elder, edition("cell box open 1 1"), cells), ("NotLoaded", "size", "u", "box"))


class Images(unittest.TestCase):
    CLIENT = ("unit b\nroutine w\ncall in it\ninner in\nend\nstart\ncall b 1\ncall f 1 at 3",
              "unit a late\nroutine f\ncall in 1 at 1\ncall a 1\ncall b 1 at 1\ncall w 1\ninner in\ncall in 1")

    def test_attributes(self):
        linked = linked_by(ELDER, *self.CLIENT)
        newer = edition("wants w", "first two after one", "end", "first one", "end", "routine a guarded", "end",
                        "routine b open at 1 default", "end")
        image = load(linked=linked, edition=newer)
        self.assertEqual(image.linked, linked)
        self.assertEqual(image.edition, newer)
        self.assertEqual(image.firsts, ("one", "two"))
        self.assertEqual(image.scope.given, ("f", "w"))
        self.assertEqual(image.scope.edition, newer)

    def test_calls_of_units(self):
        image = image_by(ELDER, *self.CLIENT)
        cases = [
            ("b", "in", 0, ("client", "b", "in"), "inner"),
            ("a", "in", 1, ("client", "a", "in"), "inner"),
            ("a", "in", 0, ("client", "a", "in"), "inner"),
            ("b", "w", 0, ("client", "b", "w"), "given"),
            ("a", "w", 7, ("client", "b", "w"), "given"),
            ("b", "f", 3, ("client", "a", "f"), "given"),
            ("b", "b", 0, ("edition", "b", 1), "noted"),
            ("a", "b", 1, ("edition", "b", 1), "noted"),
            ("b", "a", 0, ("edition", "a", 0), "noted"),
            ("a", "b", 2, None, "lost"),
            ("a", "a", 1, None, "lost"),
            ("a", "none", 0, None, "lost"),
            ("a", "box", 0, None, "lost"),
        ]
        for unit_name, name, tag, target, why in cases:
            self.assertEqual(image.reach(unit_name, name, tag), target, (unit_name, name, tag))
            self.assertEqual(image.why(unit=unit_name, name=name, tag=tag), why, (unit_name, name, tag))
        self.assertEqual(image.reach("b", "b"), ("edition", "b", 1))
        self.assertEqual(image.why("b", "b"), "noted")
        self.assertEqual(image.targets(), [
            ("a", "a", 0, ("edition", "a", 0), "noted"), ("a", "b", 1, ("edition", "b", 1), "noted"),
            ("a", "w", 0, ("client", "b", "w"), "given"), ("b", "b", 0, ("edition", "b", 1), "noted"),
            ("b", "f", 3, ("client", "a", "f"), "given")])
        self.assertEqual(image.lost(), [])

    def test_an_inner_block_beside_a_given_name(self):
        image = image_by(edition(), "unit a\nroutine f\nend\nstart\ncall f 1", "unit b\ninner f\nend\ninner g\ncall f 1")
        self.assertEqual((image.reach("b", "f"), image.why("b", "f")), (("client", "b", "f"), "inner"))
        self.assertEqual((image.reach("a", "f"), image.why("a", "f")), (("client", "a", "f"), "given"))

    def test_an_inner_block_is_not_there_and_not_reached_from_elsewhere(self):
        elder = edition("routine f open", "end")
        image = image_by(elder, "unit a\ninner g\nend\ninner f\nend\nstart\nend", "unit b\ninner h\ncall f 1")
        self.assertEqual(image.reach("b", "f"), ("edition", "f", 0))
        self.assertIsNone(image.reach("b", "g"))
        self.assertEqual(image.why("b", "g"), "lost")
        self.assertEqual([image.there("f"), image.there("g")], [True, False])

    def test_the_real_tag(self):
        elder = edition("routine f open", "end", "routine g open at 1 default", "end", "routine g open at 2", "end")
        newer = edition("routine f open at 3 default", "end", "routine f open at 4", "end",
                        "routine g open at 1", "end", "routine g open at 2 default", "end")
        image = load(linked_by(elder, unit("start", "call f 1", "call g 1", "call g 1 at 2")), newer)
        self.assertEqual(image.reach("u", "f"), ("edition", "f", 3))
        self.assertEqual(image.reach("u", "g"), ("edition", "g", 1))
        self.assertEqual(image.reach("u", "g", 2), ("edition", "g", 2))
        self.assertIsNone(image.reach("u", "g", 1))
        self.assertIsNone(image.reach("u", "f", 3))
        late = linked_by(elder, "unit u late\nstart\ncall f 1\ncall g 1")
        without = edition("routine f open at 3", "end", "routine g hidden at 1 default", "end")
        self.assertEqual(load(late, without).targets(), [("u", "f", 0, None, "lost"), ("u", "g", 0, None, "lost")])

    def test_calls_of_the_edition(self):
        made = edition("wants w", "routine f open at 1 default", "call w it", "routine f guarded at 2", "end",
                       "routine g hidden", "call f it")
        image = image_by(made, "unit b\nroutine f\nend\nstart\nend", "unit c\nroutine w\nend\nroutine g\nend")
        self.assertEqual(image.reach_of_edition("w"), ("client", "c", "w"))
        self.assertEqual(image.reach_of_edition("f"), ("client", "b", "f"))
        self.assertEqual(image.reach_of_edition("f", 2), ("edition", "f", 2))
        self.assertEqual(image.reach_of_edition("g", tag=0), ("edition", "g", 0))
        self.assertIsNone(image.reach_of_edition("f", 3))
        self.assertIsNone(image.reach_of_edition("w", 1))
        told = [image.why_of_edition(name, tag) for name, tag in (("w", 0), ("f", 0), ("f", 1), ("f", 2), ("g", 0))]
        self.assertEqual(told, ["wanted", "taken", "taken", "guarded", "hidden"])
        self.assertEqual([image.why_of_edition("w", 1), image.why_of_edition("none")], [None, None])

    def test_there(self):
        made = edition("cell c open 1", "wants w", "routine f guarded at 1", "end", "routine h hidden", "end")
        image = image_by(made, unit("routine w", "end", "routine x", "end", "inner i", "end", "start", "end"))
        told = {name: image.there(name) for name in ("f", "h", "w", "x", "i", "c", "none", "u")}
        self.assertEqual(told, {"f": True, "h": False, "w": True, "x": True, "i": False, "c": False, "none": False,
                                "u": False})

    def test_equal(self):
        client = unit("start", "call f 1")
        one = edition("routine f open", "end")
        self.assertEqual(image_by(one, client), image_by(edition("routine f open", "end"), client))
        other = edition("routine f open", "tell 1")
        self.assertNotEqual(image_by(one, client), load(linked_by(one, client), other))
        self.assertEqual(load(linked_by(other, client), one), image_by(one, client))
        self.assertNotEqual(image_by(one, client), image_by(one, unit("start", "call f 2")))
        self.assertNotEqual(image_by(one, client), one)
        self.assertNotEqual(image_by(one, client), None)

    def test_lists_are_new(self):
        linked = linked_by(edition("routine f open", "end"), "unit u late\nstart\ncall f 1")
        image = load(linked, edition())
        for action in (image.targets, image.lost):
            told = action()
            self.assertEqual(len(told), 1)
            told.clear()
            self.assertEqual(len(action()), 1)


class Late(unittest.TestCase):
    def test_no_unit_late_and_every_unit_late(self):
        chance = random.Random(41)
        causes = set()
        for _ in range(1500):
            elder = some_edition(chance)
            newer = changed(chance, elder)
            client = some_client(chance, elder, newer)
            pair = [Client([Unit(part.name, is_late, part.cells, part.blocks) for part in client.units])
                    for is_late in (False, True)]
            try:
                plain, late = [link(assemble_all(part, elder), elder) for part in pair]
            except QuietError:
                continue
            first = refusal(load, plain, newer)
            second = refusal(load, late, newer)
            causes.add(first[1] if first else None)
            if first is None:
                self.assertIsNone(second)
                one, two = load(plain, newer), load(late, newer)
                self.assertEqual(one.targets(), two.targets())
                self.assertEqual(one.lost() + two.lost(), [])
            elif first[1] in ("wanted", "cell", "size"):
                self.assertEqual(second, first)
            elif second is not None:
                self.assertIn(second[1], ("cell", "size"))
            else:
                unit_name, name, _ = load(late, newer).lost()[0]
                self.assertEqual((unit_name, name), first[2:])
        self.assertEqual(causes, {None, "wanted", "name", "tag", "cell", "size"})


if __name__ == "__main__":
    unittest.main()
