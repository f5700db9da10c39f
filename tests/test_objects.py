"""Objects (2.1, 2.3, 2.4)."""

import unittest

from quietedition.objects import Object, named
from quietedition.rows import Call, End, Put, Same, Tell, There
from quietedition.units import Block, Unit

WIDE = """unit wide late
cell own 3
cell more -4
routine zed
set box.0 #b
call put #a at 2
call put it
call own it at 3
there hop else 1
set tip.1 box.1
inner own
same #c #a else 1
tell tip.0
call zed #b
start
there hop else 2
there ant else 1
call alpha $own
call put 1 at 2
set $own #d
tell box.0"""

NUMBERS = {"a": 1, "b": -2, "c": 3, "d": 4, "e": 5}


class Objects(unittest.TestCase):
    def setUp(self):
        self.unit = Unit.read(WIDE)
        self.made = Object(self.unit, NUMBERS)

    def test_attributes(self):
        made = self.made
        self.assertEqual((made.name, made.is_late), ("wide", True))
        self.assertEqual(list(made.cells.items()), [("own", 3), ("more", -4)])
        self.assertEqual(list(made.numbers.items()), [("b", -2), ("a", 1), ("c", 3), ("d", 4)])
        self.assertEqual(made.gives, ["zed"])
        self.assertEqual(made.calls, [("put", 2), ("put", 0), ("alpha", 0)])
        self.assertEqual(list(made.uses.items()), [("box", 1), ("tip", 1)])
        self.assertEqual(made.asked, ["ant", "hop"])
        self.assertIs(made.has_start, True)
        plain = Object(Unit.read("unit u\nroutine b\nend\nroutine a\nend"), {})
        self.assertEqual((plain.is_late, plain.cells, plain.numbers, plain.gives, plain.calls, plain.uses,
                          plain.asked, plain.has_start), (False, {}, {}, ["a", "b"], [], {}, [], False))

    def test_uses_are_told_in_the_order_of_first_mention(self):
        def uses(*rows):
            return list(Object(Unit.read("\n".join(("unit u", "start") + rows)), {}).uses.items())

        self.assertEqual(uses("set z.0 a.1", "tell z.3", "tell z.2"), [("z", 3), ("a", 1)])
        self.assertEqual(uses("same b.0 a.9 else 1", "call f c.4"), [("b", 0), ("a", 9), ("c", 4)])

    def test_blocks(self):
        wanted = (
            Block("shared", "zed", [
                Put(("place", "box", 0), ("number", -2)), Call("put", ("number", 1), 2), Call("put", ("argument",)),
                Call("own", ("argument",), 3), There("hop", 1), Put(("place", "tip", 1), ("place", "box", 1))]),
            Block("inner", "own", [
                Same(("number", 3), ("number", 1), 1), Tell(("place", "tip", 0)), Call("zed", ("number", -2))]),
            Block("start", "", [
                There("hop", 2), There("ant", 1), Call("alpha", ("own", "own")), Call("put", ("number", 1), 2),
                Put(("own", "own"), ("number", 4)), Tell(("place", "box", 0))]),
        )
        self.assertEqual(self.made.blocks, wanted)
        self.assertEqual(self.unit, Unit.read(WIDE))
        self.assertEqual(self.made.block("zed"), wanted[0])
        self.assertEqual(self.made.block(name="own"), wanted[1])
        self.assertIsNone(self.made.block(""))
        self.assertIsNone(self.made.block("put"))
        self.assertEqual(self.made.start_block(), wanted[2])
        self.assertIsNone(Object(Unit.read("unit u"), {}).start_block())

    def test_named(self):
        self.assertEqual(named(self.unit), ["b", "a", "c", "d"])
        named(self.unit).append("x")
        self.assertEqual(named(unit=self.unit), ["b", "a", "c", "d"])
        self.assertEqual(named(Unit.read("unit u")), [])
        self.assertEqual(named(Unit.read("unit u\nstart\nset box.0 #z\nsame #y #x else 1\ncall #z #y"
                                         .replace("call #z", "call z"))), ["z", "y", "x"])

    def test_equal(self):
        self.assertEqual(self.made, Object(Unit.read(WIDE), {**NUMBERS, "e": 9, "f": 1}))
        others = [WIDE.replace("unit wide", "unit wild"), WIDE.replace(" late", ""), WIDE.replace("own 3", "own 2"),
                  WIDE.replace("tell tip.0", "tell tip.1"), WIDE.replace("inner own", "routine own"),
                  WIDE.replace("cell more -4\n", ""), WIDE.replace("$own #d", "$own 4")]
        for text in others:
            self.assertNotEqual(self.made, Object(Unit.read(text), NUMBERS), text)
        for name in "abcd":
            self.assertNotEqual(self.made, Object(self.unit, {**NUMBERS, name: 100}))
        self.assertNotEqual(self.made, self.unit)
        self.assertNotEqual(self.made, None)

    def test_equal_numbers_under_other_names_are_unlike(self):
        one = Object(Unit.read("unit u\nstart\ntell #a"), {"a": 1})
        self.assertNotEqual(one, Object(Unit.read("unit u\nstart\ntell #b"), {"b": 1}))
        self.assertEqual(one.blocks, Object(Unit.read("unit u\nstart\ntell #b"), {"b": 1}).blocks)

    def test_arguments_are_copied(self):
        numbers = dict(NUMBERS)
        made = Object(self.unit, numbers)
        numbers["a"] = 77
        self.unit.cells["own"] = 77
        self.assertEqual(made, self.made)
        self.assertEqual(made.numbers["a"], 1)
        self.assertEqual(made.cells["own"], 3)


if __name__ == "__main__":
    unittest.main()
