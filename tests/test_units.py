"""Units and clients (1.11 to 1.13)."""

import unittest

from quietedition.errors import BadClient, BadText
from quietedition.rows import Call, End, Put, Same, Tell, There
from quietedition.units import Block, Client, Unit

GOOD = """unit ui late
cell seen 0
cell two -5
routine show
set $seen it
call put $seen at 2
call help it
inner help
same it #most else 2
there ask else 1
set box.1 3
start
tell box.0
end"""


def fault(text):
    """(row, cause) with which the text is refused, or None."""
    try:
        Unit.read(text)
    except BadText as error:
        return (error.row, error.cause)
    return None


def unit(*lines):
    return "\n".join(("unit u",) + lines)


class Refusals(unittest.TestCase):
    def expect(self, text, row, cause):
        self.assertEqual(fault(text), (row, cause), text)

    def fine(self, text):
        self.assertIsNone(fault(text), text)

    def test_good(self):
        for text in (GOOD, "unit u", "unit u late", unit("cell c 0"), unit("start", "end")):
            self.fine(text)

    def test_no_string(self):
        for thing in (None, 5, True, ["unit u"], ("unit u",)):
            self.expect(thing, -1, "words")

    def test_words(self):
        for text, row in (("", 0), ("unit u\n", 1), (" unit u", 0), ("unit  u", 0), (unit("start", ""), 2),
                          (unit("start", "end "), 2)):
            self.expect(text, row, "words")

    def test_head(self):
        self.expect("edition u", 0, "head")
        self.expect("start", 0, "head")
        for line in ("unit v", "first a", "wants a", "number n 1", "edition e", "late", "nothing"):
            self.expect(unit(line), 1, "head")
            self.expect(unit("start", "end", line), 3, "head")
        self.expect(unit("start", "end", "cell c 1"), 3, "head")
        self.expect(unit("inner f", "end", "cell c 1"), 3, "head")
        for row in ("tell 1", "set c.0 1", "same 1 1 else 1", "there a else 1", "call f 1", "end"):
            self.expect(unit(row), 1, "head")
            self.expect(unit("cell c 1", row), 2, "head")
        self.fine(unit("start", "end", "routine f", "end", "inner g", "end"))

    def test_count(self):
        self.expect("unit", 0, "count")
        self.expect("unit u early", 0, "count")
        self.expect("unit U early", 0, "count")
        self.expect("unit u late late", 0, "count")
        for line in ("cell c", "cell c open 1", "cell c 1 2", "routine", "routine f open", "routine f open at 1",
                     "inner", "inner f g", "start f"):
            self.expect(unit(line), 1, "count")
        for row in ("there a else", "there a 1", "there a else 1 2", "there a skip 1", "there", "tell", "set c.0",
                    "same 1 1 1", "same 1 1 skip 1", "call f", "call f 1 2", "call f 1 on 2", "end 1"):
            self.expect(unit("start", row), 2, "count")

    def test_name_and_number(self):
        for name in ("A", "a" * 13, "1a", "$a"):
            self.expect("unit " + name, 0, "name")
            self.expect(f"unit {name} late", 0, "name")
            for line in ("cell {} 1", "routine {}", "inner {}"):
                self.expect(unit(line.format(name)), 1, "name")
            self.expect(unit("start", f"there {name} else 1"), 2, "name")
            self.expect(unit("start", f"call {name} 1"), 2, "name")
        self.fine(unit("cell abcdefghijkl 1", "routine a", "end", "inner abcdefghijkl", "end"))
        for numeral in ("x", "01", "-0", "1234567890"):
            self.expect(unit(f"cell c {numeral}"), 1, "number")
            self.expect(unit("start", f"there a else {numeral}"), 2, "number")
            self.expect(unit("start", f"same 1 1 else {numeral}"), 2, "number")
        self.expect(unit("start", "call f 1 at 0"), 2, "number")
        self.fine(unit("cell c 0", "cell d -123456789"))

    def test_value(self):
        for value in ("x", "$", "$A", "$" + "a" * 13, "#", "c.", "c.10", "It"):
            for row in ("tell {}", "set c.0 {}", "same {} 1 else 1", "same 1 {} else 1", "call f {}"):
                self.expect(unit("start", row.format(value)), 2, "value")
            self.expect(unit("start", f"set {value} 1"), 2, "value")
        for place in ("5", "it", "#n"):
            self.expect(unit("cell c 0", "routine f", f"set {place} 1"), 3, "value")

    def test_a_line_by_itself_comes_first(self):
        self.expect(unit("cell c 1", "cell c 1", "start", "tell x"), 4, "value")
        self.expect(unit("cell c 1", "cell c 1", "start", "tell 1"), 2, "twice")
        self.expect(unit("start", "tell it", "inner f"), 2, "argument")

    def test_many(self):
        cells = [f"cell c{k} 0" for k in range(10)]
        self.fine(unit(*cells[:9]))
        self.expect(unit(*cells), 10, "many")
        self.expect(unit(*cells[:9], cells[0]), 10, "many")
        blocks = [line for k in range(21) for line in (f"routine f{k}", "end")]
        self.fine(unit(*blocks[:40]))
        self.expect(unit(*blocks), 41, "many")
        self.expect(unit(*blocks[:40], "inner f0"), 41, "many")
        self.fine(unit("start", *["end"] * 600))
        self.expect(unit("start", *["end"] * 601), 602, "many")
        self.expect(unit("start", *["end"] * 600, "tell it"), 602, "many")
        self.fine(unit(*[line for k in range(19) for line in (f"inner f{k}", "end")], "start", "end"))
        self.expect(unit(*blocks[:40], "start", "end"), 41, "many")

    def test_twice(self):
        self.expect(unit("cell c 1", "cell d 1", "cell c 2"), 3, "twice")
        for first in ("routine", "inner"):
            for second in ("routine", "inner"):
                self.expect(unit(f"{first} f", "end", "inner g", "end", f"{second} f"), 5, "twice")
        self.expect(unit("start", "end", "routine f", "end", "start"), 5, "twice")
        self.fine(unit("cell f 1", "routine f", "end", "inner start", "end", "start", "end"))

    def test_empty(self):
        for head in ("routine f", "inner f", "start"):
            self.expect(unit(head), 1, "empty")
            self.expect(unit(head, "inner g", "end"), 1, "empty")

    def test_unknown(self):
        for row in ("tell $d", "set $d 1", "set box.0 $d", "same $d 1 else 9", "same 1 $d else 9", "call f $d at 1"):
            self.expect(unit("cell c 0", "routine f", row), 3, "unknown")
            self.fine(unit("cell d 0", "routine f", row.replace("9", "1"), "end"))
        # Numbers, places and called names are not asked.
        self.fine(unit("start", "tell #n", "tell box.9", "call f 1", "call g 1 at 4", "there h else 1", "end"))

    def test_argument(self):
        for row in ("tell it", "set box.0 it", "same it 1 else 9", "same 1 it else 9", "call f it"):
            self.expect(unit("start", row), 2, "argument")
            for head in ("routine f", "inner f"):
                self.fine(unit(head, "call g it", row.replace("9", "1"), "end"))

    def test_values_of_a_row_from_left_to_right(self):
        self.expect(unit("start", "same it $d else 9"), 2, "argument")
        self.expect(unit("start", "same $d it else 9"), 2, "unknown")
        self.expect(unit("start", "set $d it"), 2, "unknown")

    def test_skip(self):
        for word in ("same 1 1", "there a"):
            for skip, count, good in ((1, 1, True), (0, 1, False), (-1, 1, False), (2, 1, False), (599, 599, True),
                                      (600, 599, False), (1, 0, False)):
                text = unit("start", f"{word} else {skip}", *["end"] * count)
                self.assertEqual(fault(text), None if good else (2, "skip"), (word, skip, count))
            self.fine(unit("start", "end", "end", f"{word} else 1", "end", "routine f", "end", "end"))
            self.expect(unit("start", "end", "end", f"{word} else 2", "end", "routine f", "end", "end"), 4, "skip")


def good_parts():
    """The parts of GOOD."""
    blocks = [
        Block("shared", "show", [Put(("own", "seen"), ("argument",)), Call("put", ("own", "seen"), 2),
                                 Call("help", ("argument",))]),
        Block("inner", "help", [Same(("argument",), ("named", "most"), 2), There("ask", 1),
                                Put(("place", "box", 1), ("number", 3))]),
        Block("start", "", [Tell(("place", "box", 0)), End()]),
    ]
    return ["ui", True, {"seen": 0, "two": -5}, blocks]


class Units(unittest.TestCase):
    def test_read_attributes(self):
        made = Unit.read(text=GOOD)
        name, is_late, cells, blocks = good_parts()
        self.assertEqual((made.name, made.is_late, made.cells, made.blocks), (name, is_late, cells, tuple(blocks)))
        self.assertEqual(list(made.cells), ["seen", "two"])
        self.assertIs(made.is_late, True)
        self.assertIs(Unit.read("unit u").is_late, False)

    def test_text_gives_the_read_text(self):
        for text in (GOOD, "unit u", "unit u late", unit("cell b 1", "cell a 2", "start", "there x else 1", "end"),
                     unit("start", "end", "routine f", "call f 1 at 9")):
            self.assertEqual(Unit.read(text).text(), text)
            self.assertEqual(str(Unit.read(text)), text)

    def test_equal_by_parts(self):
        name, is_late, cells, blocks = good_parts()
        self.assertEqual(Unit(*good_parts()), Unit.read(GOOD))
        self.assertEqual(Unit(blocks=tuple(blocks), cells=cells, is_late=is_late, name=name), Unit.read(GOOD))
        for parts in (["uj", is_late, cells, blocks], [name, False, cells, blocks],
                      [name, is_late, {"seen": 1, "two": -5}, blocks], [name, is_late, {"seen": 0}, blocks],
                      [name, is_late, cells, blocks[:2]], [name, is_late, cells, [blocks[1], blocks[0], blocks[2]]]):
            self.assertNotEqual(Unit(*parts), Unit.read(GOOD))
        self.assertNotEqual(Unit.read(GOOD), GOOD)

    def test_blocks(self):
        block = Block("shared", "f", [End()])
        self.assertEqual((block.kind, block.name, block.rows), ("shared", "f", (End(),)))
        self.assertEqual(block, Block(kind="shared", name="f", rows=(End(),)))
        for other in (Block("inner", "f", [End()]), Block("shared", "g", [End()]), Block("shared", "f", []), "f"):
            self.assertNotEqual(block, other)

    def test_arguments_are_copied(self):
        parts = good_parts()
        made = Unit(*parts)
        parts[2]["more"] = 1
        parts[3].pop()
        self.assertEqual(made, Unit.read(GOOD))
        rows = [End()]
        block = Block("inner", "f", rows)
        rows.append(End())
        self.assertEqual(block.rows, (End(),))

    def test_shared_and_block(self):
        made = Unit.read(unit("routine z", "end", "inner m", "tell 1", "start", "tell 2", "routine a", "tell 3"))
        self.assertEqual(made.shared(), ["a", "z"])
        made.shared().append("x")
        self.assertEqual(made.shared(), ["a", "z"])
        self.assertEqual([made.block(name) for name in ("z", "m", "a")],
                         [made.blocks[0], made.blocks[1], made.blocks[3]])
        self.assertIsNone(made.block("x"))
        self.assertIsNone(made.block(""))
        self.assertIsNone(made.block("start"))
        self.assertEqual(Unit.read("unit u").shared(), [])


class Clients(unittest.TestCase):
    def expect(self, make, at, row, cause):
        with self.assertRaises(BadClient) as caught:
            make()
        error = caught.exception
        self.assertEqual((error.at, error.row, error.cause), (at, row, cause))

    def test_units(self):
        texts = ["unit b\nroutine z\nend\nroutine a\nend", "unit a late\nroutine z\nend\ninner y\nend", "unit c"]
        made = Client.of(*texts)
        self.assertEqual(made.texts(), texts)
        self.assertEqual(made.units, tuple(Unit.read(text) for text in texts))
        self.assertEqual(made.given(), ["a", "z"])
        for told in (made.given, made.texts):
            before = told()
            told().append("x")
            self.assertEqual(told(), before)

    def test_equal(self):
        texts = ["unit a", "unit b"]
        made = Client.of(*texts)
        self.assertEqual(made, Client([Unit.read(text) for text in texts]))
        self.assertNotEqual(made, Client.of("unit b", "unit a"))
        self.assertNotEqual(made, Client.of("unit a"))
        self.assertNotEqual(made, Client.of("unit a", "unit b late"))
        self.assertNotEqual(made, texts)
        self.assertNotEqual(Client.of("unit a"), Unit.read("unit a"))

    def test_sizes(self):
        units = [Unit.read(f"unit u{k}") for k in range(5)]
        self.assertEqual(len(Client(units=units[:4]).units), 4)
        self.assertEqual(len(Client(tuple(units[:1])).units), 1)
        self.expect(lambda: Client([]), 0, 0, "many")
        self.expect(lambda: Client(units), 4, 0, "many")
        self.expect(lambda: Client(units + units), 4, 0, "many")
        self.expect(lambda: Client.of(), 0, 0, "many")
        self.expect(lambda: Client.of(*["unit u"] * 5), 4, 0, "many")

    def test_twice(self):
        self.expect(lambda: Client.of("unit a", "unit b", "unit b", "unit a"), 2, 0, "twice")
        self.expect(lambda: Client.of("unit a", "unit a late"), 1, 0, "twice")

    def test_refused_texts(self):
        self.expect(lambda: Client.of("unit a", "unit b\nstart", "nothing"), 1, 1, "empty")
        self.expect(lambda: Client.of("unit a", 5), 1, -1, "words")
        self.expect(lambda: Client.of(None), 0, -1, "words")
        # A refused text comes ahead of what is wrong with the client.
        self.expect(lambda: Client.of("unit a", "unit a", "unit b "), 2, 0, "words")
        self.expect(lambda: Client.of(*["unit a"] * 5, "unit"), 5, 0, "count")

    def test_arguments_are_copied(self):
        units = [Unit.read("unit a")]
        made = Client(units)
        units.append(Unit.read("unit b"))
        self.assertEqual(made, Client.of("unit a"))


if __name__ == "__main__":
    unittest.main()
