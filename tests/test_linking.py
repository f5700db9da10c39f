"""Demands, refusals and linked clients (3.1 to 3.5), facts and tables."""

import itertools
import unittest

from quietedition.assembling import assemble_all
from quietedition.editions import Edition
from quietedition.errors import NotLinked
from quietedition.facts import facts, table, what_parts
from quietedition.linking import Linked, demands, link, meets, refusals
from quietedition.units import Client


def edition(*lines):
    return Edition.read("\n".join(("edition e",) + lines))


def objects(*texts):
    return assemble_all(Client.of(*texts), edition())


def start(*rows):
    """The objects of a client of one unit that gives w and has a start with these rows."""
    return objects("\n".join(("unit u", "routine w", "end", "start") + rows))


LIB = edition(
    "cell box open 1", "cell hut hidden 3", "routine plain open", "end", "routine many hidden at 1", "end",
    "routine many guarded at 2 default", "end", "routine bare open at 3", "end")


class Demands(unittest.TestCase):
    def test_demands(self):
        made = objects("unit b\nstart\ncall f 1 at 3\ncall f 1\ncall g 1 at 2\ncall h 1\ntell box.1\ntell ant.0",
                       "unit a\nroutine g\ncall f 1\ncall k 1 at 9\nset box.0 box.2\ncall g 1 at 3",
                       "unit c late\nroutine late\ncall z 1\ninner h\ncall h 1")
        wanted = [("cell", "ant", 0), ("cell", "box", 2), ("routine", "f", 0), ("routine", "f", 3),
                  ("routine", "h", 0), ("routine", "k", 9), ("routine", "z", 0)]
        for order in itertools.permutations(made):
            self.assertEqual(demands(order), wanted)
        self.assertEqual(demands(objects=list(made)), wanted)
        self.assertEqual(demands(objects("unit u")), [])

    def test_meets(self):
        good = [("routine", "plain", 0), ("routine", "many", 0), ("routine", "many", 2), ("routine", "bare", 3),
                ("cell", "box", 0)]
        bad = [("routine", "plain", 1), ("routine", "many", 1), ("routine", "many", 3), ("routine", "bare", 0),
               ("routine", "none", 0), ("cell", "box", 1), ("cell", "hut", 0), ("cell", "none", 0),
               ("routine", "box", 0), ("cell", "plain", 0)]
        for demand in good:
            self.assertIs(meets(demand, LIB), True, demand)
        for demand in bad:
            self.assertIs(meets(demand, LIB), False, demand)
        self.assertIs(meets(demand=("cell", "two", 1), edition=edition("cell two open 1 2")), True)
        self.assertIs(meets(("cell", "two", 2), edition("cell two open 1 2")), False)
        hidden = edition("routine h hidden at 1 default", "end", "routine h open at 2", "end")
        self.assertIs(meets(("routine", "h", 0), hidden), False)


class Refusals(unittest.TestCase):
    def expect(self, made, lib, wanted):
        for order in itertools.permutations(made):
            self.assertEqual(refusals(order, lib), wanted)
        if wanted:
            with self.assertRaises(NotLinked) as caught:
                link(made, lib)
            error = caught.exception
            self.assertEqual((error.cause, error.unit, error.name), wanted[0])
        else:
            self.assertIsInstance(link(made, lib), Linked)
        # 3.5: no refusals, exactly if these hold.
        gives = [name for part in made for name in part.gives]
        serves = (len(set(gives)) == len(gives) and sum(part.has_start for part in made) == 1
                  and all(name in gives for name in lib.wants)
                  and all(meets(demand, lib) for demand in demands(made)))
        self.assertEqual(serves, not wanted)

    def test_none(self):
        self.expect(start("call plain 1", "call many 1", "call many 1 at 2", "call bare 1 at 3", "set box.0 1",
                          "call w 1 at 5"), LIB, [])
        self.assertEqual(refusals(edition=LIB, objects=start("end")), [])

    def test_twice(self):
        made = objects("unit c\nroutine z\nend\nroutine b\nend", "unit a\nroutine b\nend\nroutine z\nend\nstart\nend",
                       "unit d\nroutine z\nend\nroutine y\nend", "unit b\nroutine y\nend\ninner z\nend")
        self.expect(made, edition(), [("twice", "c", "b"), ("twice", "c", "z"), ("twice", "d", "y"),
                                      ("twice", "d", "z")])

    def test_start(self):
        self.expect(objects("unit a\nroutine f\nend"), edition(), [("start", "", "")])
        self.expect(objects("unit a", "unit b"), edition(), [("start", "", "")])
        self.expect(objects("unit a", "unit b\nstart\nend"), edition(), [])
        self.expect(objects("unit c\nstart\nend", "unit b\nstart\nend", "unit a\nstart\nend", "unit d"), edition(),
                    [("start", "b", ""), ("start", "c", "")])

    def test_wanted(self):
        self.expect(start("end"), edition("wants z", "wants a"), [("wanted", "", "z"), ("wanted", "", "a")])
        self.expect(start("end"), edition("wants z", "wants w"), [("wanted", "", "z")])
        self.expect(objects("unit a\ninner w\nend\nstart\nend"), edition("wants w"), [("wanted", "", "w")])

    def test_calls(self):
        self.expect(start("call none 1", "call none 1 at 2"), LIB, [("name", "u", "none")] * 2)
        self.expect(start("call plain 1 at 2", "call plain 1 at 3"), LIB, [("tag", "u", "plain")] * 2)
        self.expect(start("call many 1 at 1"), LIB, [("tag", "u", "many")])
        self.expect(start("call bare 1", "call bare 1 at 1"), LIB, [("default", "u", "bare"), ("tag", "u", "bare")])
        hidden = edition("routine h hidden", "end", "routine d hidden at 1 default", "end", "routine d open at 2", "end")
        self.expect(start("call h 1", "call h 1 at 1", "call d 1", "call d 1 at 1", "call d 1 at 2"), hidden,
                    [("name", "u", "h"), ("name", "u", "h"), ("default", "u", "d"), ("tag", "u", "d")])

    def test_wanted_names_are_not_offered(self):
        self.expect(objects("unit a\nstart\ncall w 1"), edition("wants w"), [("wanted", "", "w"), ("name", "a", "w")])

    def test_calls_of_given_names(self):
        made = objects("unit a\nstart\ncall f 1 at 7\ncall g 1", "unit b\nroutine f\nend\ninner g\nend")
        self.expect(made, edition(), [("name", "a", "g")])

    def test_cells(self):
        self.expect(start("tell none.0", "set hut.0 1", "tell box.1"), LIB,
                    [("cell", "u", "none"), ("cell", "u", "hut"), ("place", "u", "box")])
        two = edition("cell two open 1 2")
        self.expect(start("tell two.0", "tell two.1"), two, [])
        self.expect(start("tell two.0", "tell two.2"), two, [("place", "u", "two")])
        made = objects("unit b\nstart\ntell two.2", "unit a\nroutine f\ntell two.1", "unit c\nroutine g\ntell two.9")
        self.expect(made, two, [("place", "b", "two"), ("place", "c", "two")])

    def test_order(self):
        made = objects(
            "unit b\nroutine f\nend\nstart\ntell box.9\ncall bare 1\ncall none 1",
            "unit a late\nroutine f\ntell none.0\ntell hut.1\ncall plain 1 at 1\ncall gone 1\nstart\nend")
        lib = edition("cell box open 1", "cell hut hidden 3", "wants y", "wants x", "routine plain open", "end",
                      "routine bare open at 3", "end")
        self.expect(made, lib, [
            ("twice", "b", "f"), ("start", "b", ""), ("wanted", "", "y"), ("wanted", "", "x"),
            ("tag", "a", "plain"), ("name", "a", "gone"), ("cell", "a", "none"), ("cell", "a", "hut"),
            ("default", "b", "bare"), ("name", "b", "none"), ("place", "b", "box")])

    def test_each_refusal_is_raised_when_it_is_the_first(self):
        lib = edition("cell box open 1", "wants w", "routine f open at 2", "end")
        for texts, wanted in (
                (["unit a\nroutine w\nend\nstart\ncall f 1", "unit b\nroutine w\nend"], ("twice", "b", "w")),
                (["unit a\nroutine w\nend"], ("start", "", "")),
                (["unit a\nstart\nend", "unit b\nstart\nend"], ("start", "b", "")),
                (["unit a\nstart\ncall f 1"], ("wanted", "", "w")),
                (["unit a\nroutine w\nend\nstart\ntell x.0\ncall f 1"], ("default", "a", "f")),
                (["unit a\nroutine w\nend\nstart\ntell x.0\ncall f 1 at 1"], ("tag", "a", "f")),
                (["unit a late\nroutine w\nend\nstart\ntell x.0\ncall g 1 at 1"], ("name", "a", "g")),
                (["unit a\nroutine w\nend\nstart\ntell x.0"], ("cell", "a", "x")),
                (["unit a\nroutine w\nend\nstart\ntell box.1"], ("place", "a", "box"))):
            with self.assertRaises(NotLinked) as caught:
                link(objects(*texts), lib)
            self.assertEqual((caught.exception.cause, caught.exception.unit, caught.exception.name), wanted)


TWO = ("unit b\nroutine z\ncall plain 1\ncall many 1 at 2\nset box.0 1",
       "unit a\nroutine k\ncall many 1\nstart\ncall bare 1 at 3\ncall z 1 at 9\ntell ant.0")

# The same without the cell ant, for editions that give box two places.
BOXED = tuple(text.replace("\ntell ant.0", "") for text in TWO)


def serving(*, plain="open", default=2, box="open 1", ant=True, name="e"):
    """An edition that serves BOXED, or fails to for one reason; with ant it serves TWO."""
    cells = [f"cell box {box}"] + (["cell ant open 5"] if ant else [])
    tags = [f"routine many open at {tag}" + (" default" if tag == default else "") for tag in (1, 2)]
    return Edition.read("\n".join([
        f"edition {name}", *cells, f"routine plain {plain}", "end",
        tags[0], "end", tags[1], "tell it", "routine bare guarded at 3", "tell 1"]))


class LinkedClients(unittest.TestCase):
    def setUp(self):
        self.objects = objects(*TWO)
        self.linked = link(self.objects, serving())

    def test_attributes(self):
        made = self.linked
        self.assertEqual([part.name for part in made.objects], ["a", "b"])
        self.assertEqual(made.objects, (self.objects[1], self.objects[0]))
        self.assertEqual(list(made.notes.items()), [(("bare", 3), 3), (("many", 0), 2), (("many", 2), 2),
                                                    (("plain", 0), 0)])
        self.assertEqual(list(made.sizes.items()), [("ant", 1), ("box", 1)])
        self.assertEqual(list(made.given.items()), [("k", "a"), ("z", "b")])
        self.assertEqual(made.start, "a")

    def test_noted(self):
        self.assertEqual(self.linked.noted("bare", 3), 3)
        self.assertEqual(self.linked.noted("plain"), 0)
        self.assertEqual(self.linked.noted("many"), 2)
        self.assertEqual(self.linked.noted(name="many", tag=2), 2)
        for name, tag in (("bare", 0), ("many", 1), ("z", 9), ("z", 0), ("none", 0), ("plain", 1)):
            self.assertIsNone(self.linked.noted(name, tag))

    def test_order_of_objects_means_nothing(self):
        self.assertEqual(link(list(reversed(self.objects)), serving()), self.linked)
        self.assertEqual(link(edition=serving(), objects=tuple(self.objects)), self.linked)

    def test_equal_exactly_if_objects_notes_and_sizes_are(self):
        self.assertEqual(self.linked, link(self.objects, serving(plain="guarded", name="other")))
        self.assertEqual(self.linked, link(self.objects, serving(box="open 77")))
        self.assertNotEqual(self.linked, link(self.objects, serving(default=1)))
        boxed = objects(*BOXED)
        self.assertEqual(link(boxed, serving()), link(boxed, serving(ant=False)))
        self.assertNotEqual(link(boxed, serving()), link(boxed, serving(box="open 1 1", ant=False)))
        for old, new in (("unit a", "unit aa"), ("tell ant.0", "set ant.0 1"), ("unit a\n", "unit a late\n")):
            self.assertNotEqual(self.linked, link(objects(TWO[0], TWO[1].replace(old, new)), serving()))
        for other in (None, self.objects, self.linked.notes):
            self.assertNotEqual(self.linked, other)

    def test_made_by_hand(self):
        made = Linked(self.objects, {("plain", 0): 0, ("many", 2): 2, ("many", 0): 2, ("bare", 3): 3},
                      {"box": 1, "ant": 1})
        self.assertEqual(made, self.linked)
        self.assertEqual(list(made.notes), list(self.linked.notes))
        self.assertEqual(list(made.sizes), list(self.linked.sizes))
        self.assertEqual(list(made.given.items()), list(self.linked.given.items()))
        for notes, sizes in (({**made.notes, ("plain", 0): 1}, made.sizes), (made.notes, {**made.sizes, "box": 2})):
            self.assertNotEqual(Linked(self.objects, notes, sizes), self.linked)

    def test_given_names_and_start_in_other_orders(self):
        made = link(objects("unit b\nroutine k\nend\nroutine a\nend\nstart\nend", "unit a\nroutine z\nend",
                            "unit c\nroutine b\nend"), edition())
        self.assertEqual(list(made.given.items()), [("a", "b"), ("b", "c"), ("k", "b"), ("z", "a")])
        self.assertEqual(made.start, "b")
        self.assertEqual([line[6:7] for line in table(made)], ["a", "b", "k", "z"])

    def test_arguments_are_copied(self):
        notes, sizes, parts = dict(self.linked.notes), dict(self.linked.sizes), list(self.objects)
        made = Linked(objects=parts, notes=notes, sizes=sizes)
        notes.clear()
        sizes.clear()
        parts.clear()
        self.assertEqual(made, self.linked)

    def test_facts(self):
        wanted = [("note", "bare", 3, 3), ("note", "many", 0, 2), ("note", "many", 2, 2), ("note", "plain", 0, 0),
                  ("size", "ant", 1), ("size", "box", 1)]
        self.assertEqual(facts(self.linked), wanted)
        facts(self.linked).append("x")
        self.assertEqual(facts(linked=self.linked), wanted)
        self.assertEqual(facts(link(start("end"), edition())), [])
        self.assertEqual(facts(link(start("tell box.0"), edition("cell box open 1 2"))), [("size", "box", 2)])

    def test_table(self):
        self.assertEqual(table(linked=self.linked), [
            "given k            a",
            "given z            b",
            "note  bare         3 3",
            "note  many         0 2",
            "note  many         2 2",
            "note  plain        0 0",
            "size  ant          1",
            "size  box          1",
        ])
        long = link(objects("unit abcdefghijkl\nroutine zyxwvutsrqpo\nend\nstart\nend"), edition())
        self.assertEqual(table(long), ["given zyxwvutsrqpo abcdefghijkl"])
        self.assertEqual(table(link(objects("unit u\nstart\nend"), edition())), [])

    def test_what_parts(self):
        same = serving(plain="guarded", name="other")
        self.assertEqual(what_parts(self.objects, serving(), same), [])
        self.assertEqual(what_parts(self.objects, serving(), serving(default=1)), [("note", "many", 0, 2, 1)])
        boxed = objects(*BOXED)
        wide = serving(default=1, box="open 3 4", ant=False)
        self.assertEqual(what_parts(boxed, wide, serving()), [("note", "many", 0, 1, 2), ("size", "box", 2, 1)])
        tagged = serving(plain="open at 7 default")
        self.assertEqual(what_parts(first=tagged, second=wide, objects=tuple(boxed)),
                         [("note", "many", 0, 2, 1), ("note", "plain", 0, 7, 0), ("size", "box", 1, 2)])

    def test_what_parts_raises_as_linking_does(self):
        hidden = serving(plain="hidden")
        closed = serving(box="hidden 1")
        no_plain, no_box = ("name", "b", "plain"), ("cell", "b", "box")
        for first, second, wanted in ((hidden, closed, no_plain), (closed, hidden, no_box),
                                      (serving(), hidden, no_plain), (closed, serving(), no_box)):
            with self.assertRaises(NotLinked) as caught:
                what_parts(self.objects, first, second)
            error = caught.exception
            self.assertEqual((error.cause, error.unit, error.name), wanted)


if __name__ == "__main__":
    unittest.main()
