"""Assembling, units written out, and listings (2.1, 2.2, 2.4 to 2.6)."""

import unittest

from quietedition.assembling import agree, assemble, assemble_all, written_out
from quietedition.editions import Edition
from quietedition.errors import NotAssembled
from quietedition.listing import listing
from quietedition.objects import Object, named
from quietedition.rows import End, Put
from quietedition.units import Block, Client, Unit

from tests.test_objects import NUMBERS, WIDE


def numbered(**numbers):
    return Edition("e", numbers, {}, [], [])


class Assembling(unittest.TestCase):
    def refused(self, make, unit, name):
        with self.assertRaises(NotAssembled) as caught:
            make()
        self.assertEqual((caught.exception.unit, caught.exception.name), (unit, name))

    def test_assemble(self):
        unit = Unit.read(WIDE)
        self.assertEqual(assemble(unit, numbered(**NUMBERS)), Object(unit, NUMBERS))
        self.assertEqual(assemble(unit=unit, edition=numbered(d=4, c=3, a=1, b=-2)), Object(unit, NUMBERS))
        self.assertEqual(unit, Unit.read(WIDE))

    def test_only_the_numbers_that_are_named_count(self):
        unit = Unit.read("unit u\nstart\ntell #a\nset box.0 #b")
        one = Edition.read("edition one\nnumber a 1\nnumber b 2\nnumber c 3\ncell box open 0\nwants w")
        two = Edition.read("edition two\nnumber b 2\nnumber a 1\nroutine f open\nend")
        self.assertEqual(assemble(unit, one), assemble(unit, two))
        self.assertNotEqual(assemble(unit, one), assemble(unit, numbered(a=1, b=3)))

    def test_first_missing_number(self):
        unit = Unit.read(WIDE)
        self.refused(lambda: assemble(unit, numbered()), "wide", "b")
        self.refused(lambda: assemble(unit, numbered(b=1)), "wide", "a")
        self.refused(lambda: assemble(unit, numbered(b=1, a=1, d=1)), "wide", "c")
        self.refused(lambda: assemble(unit, numbered(b=1, a=1, c=1)), "wide", "d")
        row = Unit.read("unit u\nstart\nsame #y #x else 1\ntell 1")
        self.refused(lambda: assemble(row, numbered()), "u", "y")
        # A place cannot be a number in a text, but it is taken first.
        made = Unit("v", False, {}, [Block("start", "", [Put(("named", "p"), ("named", "q"))])])
        self.refused(lambda: assemble(made, numbered()), "v", "p")

    def test_assemble_all(self):
        texts = ["unit b\nstart\ntell #x", "unit a\nroutine f\ntell #y", "unit c\nroutine g\ntell #z"]
        client = Client.of(*texts)
        edition = numbered(x=1, y=2, z=3)
        self.assertEqual(assemble_all(client, edition), [assemble(unit, edition) for unit in client.units])
        self.assertEqual([made.name for made in assemble_all(client=client, edition=edition)], ["b", "a", "c"])
        self.refused(lambda: assemble_all(client, numbered(y=1)), "b", "x")
        self.refused(lambda: assemble_all(client, numbered(x=1)), "a", "y")

    def test_written_out(self):
        unit = Unit.read(WIDE)
        edition = numbered(**NUMBERS)
        out = written_out(unit, edition)
        text = WIDE
        for name, number in NUMBERS.items():
            text = text.replace("#" + name, str(number))
        self.assertEqual(out.text(), text)
        self.assertEqual(unit.text(), WIDE)
        self.assertEqual(named(out), [])
        self.assertEqual(written_out(out, numbered()), out)
        self.assertEqual(written_out(unit=out, edition=edition), out)
        made, other = assemble(unit, edition), assemble(out, numbered())
        self.assertEqual(other.numbers, {})
        self.assertEqual((made.name, made.is_late, made.cells, made.blocks, made.gives, made.calls, made.uses,
                          made.asked, made.has_start),
                         (other.name, other.is_late, other.cells, other.blocks, other.gives, other.calls, other.uses,
                          other.asked, other.has_start))
        self.assertNotEqual(made, other)
        self.assertEqual(assemble(out, edition), other)
        self.refused(lambda: written_out(unit, numbered(b=1, a=1)), "wide", "c")

    def test_agree(self):
        unit = Unit.read("unit u\nstart\ntell #a\ntell #b")
        cases = [
            (numbered(a=1, b=2), numbered(b=2, a=1), True),
            (numbered(a=1, b=2, c=3), numbered(b=2, a=1, c=4), True),
            (numbered(a=1, b=2), numbered(a=1, b=3), False),
            (numbered(a=1, b=2), numbered(a=1), False),
            (numbered(a=1), numbered(a=1, b=2), False),
            (numbered(a=1), numbered(a=1), False),
            (numbered(), numbered(), False),
        ]
        for first, second, wanted in cases:
            self.assertIs(agree(unit, first, second), wanted)
        self.assertIs(agree(unit=Unit.read("unit u"), first=numbered(), second=numbered(a=1)), True)


class Listing(unittest.TestCase):
    def test_example(self):
        unit = Unit.read("unit ui\ncell seen 0\nstart\nset $seen #most\ncall put #most at 2\ntell box.1")
        made = assemble(unit, Edition.read("edition e\nnumber most 7"))
        self.assertEqual(listing(made), [
            "object ui",
            "cell    seen                  0",
            "number  most                  7",
            "calls   put                   2",
            "uses    box                   1",
            "start",
            "   0  set $seen 7",
            "   1  call put 7 at 2",
            "   2  tell box.1",
        ])

    def test_each_kind_of_line(self):
        numbers = {"a": -999999999, "b": 123456789, "c": 0, "d": 10}
        text = WIDE.replace("cell more", "cell abcdefghijkl").replace("alpha", "zyxwvutsrqpo")
        self.assertEqual(listing(made=Object(Unit.read(text), numbers)), [
            "object wide late",
            "cell    own                   3",
            "cell    abcdefghijkl         -4",
            "number  b             123456789",
            "number  a            -999999999",
            "number  c                     0",
            "number  d                    10",
            "gives   zed",
            "calls   put                   2",
            "calls   put                   0",
            "calls   zyxwvutsrqpo          0",
            "uses    box                   1",
            "uses    tip                   1",
            "asks    ant",
            "asks    hop",
            "routine zed",
            "   0  set box.0 123456789",
            "   1  call put -999999999 at 2",
            "   2  call put it",
            "   3  call own it at 3",
            "   4  there hop else 1",
            "   5  set tip.1 box.1",
            "inner own",
            "   0  same 0 -999999999 else 1",
            "   1  tell tip.0",
            "   2  call zed 123456789",
            "start",
            "   0  there hop else 2",
            "   1  there ant else 1",
            "   2  call zyxwvutsrqpo $own",
            "   3  call put 1 at 2",
            "   4  set $own 10",
            "   5  tell box.0",
        ])

    def test_rows_are_counted(self):
        lines = listing(Object(Unit("u", False, {}, [Block("start", "", [End()] * 101)]), {}))
        self.assertEqual([lines[k + 2] for k in (0, 9, 10, 99, 100)],
                         ["   0  end", "   9  end", "  10  end", "  99  end", " 100  end"])

    def test_a_unit_without_anything(self):
        made = Object(Unit.read("unit u"), {})
        self.assertEqual(listing(made), ["object u"])
        listing(made).append("x")
        self.assertEqual(listing(made), ["object u"])


if __name__ == "__main__":
    unittest.main()
