"""The refusals of Edition.read (1.1, 1.2, 1.5 to 1.10)."""

import unittest

from quietedition.editions import Edition
from quietedition.errors import BadText

GOOD = """edition lib
number most 7
number least -3
cell box open 1
cell hut hidden -2
wants back
first one after two
call ask 3
call back #least
first two
set hut.0 box.0
routine ask open at 1
same it #most else 1
tell it
call put it at 2
end
routine ask guarded at 2 default
tell box.0
routine put hidden at 2
set box.0 it"""


def fault(text):
    """(row, cause) with which the text is refused, or None."""
    try:
        Edition.read(text)
    except BadText as error:
        return (error.row, error.cause)
    return None


def edition(*lines):
    return "\n".join(("edition e",) + lines)


def body(*rows):
    """The fault of a routine with these rows beside some declarations, counted from its first row."""
    found = fault(edition("number n 1", "cell c open 0", "cell d hidden 0", "wants w", "routine f open",
                          *rows, "routine g open at 1", "end", "routine h open at 1 default", "end"))
    return found if found is None else (found[0] - 6, found[1])


class Refusals(unittest.TestCase):
    def expect(self, text, row, cause):
        self.assertEqual(fault(text), (row, cause), text)

    def fine(self, text):
        self.assertIsNone(fault(text), text)

    def test_good(self):
        self.fine(GOOD)
        self.fine("edition e")

    def test_no_string(self):
        for thing in (None, 5, True, ["edition e"], ("edition e",), []):
            self.expect(thing, -1, "words")

    def test_words(self):
        self.expect("", 0, "words")
        self.expect(" edition e", 0, "words")
        self.expect("edition e ", 0, "words")
        self.expect("edition  e", 0, "words")
        self.expect("edition e\n", 1, "words")
        self.expect("\nedition e", 0, "words")
        self.expect(edition("", "wants w"), 1, "words")
        self.expect(edition("wants w "), 1, "words")
        self.expect(edition("wants  w"), 1, "words")
        self.expect(edition(" "), 1, "words")
        self.expect(edition("nothing  of this"), 1, "words")

    def test_head(self):
        self.expect("unit e", 0, "head")
        self.expect("wants e", 0, "head")
        self.expect("tell 1", 0, "head")
        self.expect("edition\te", 0, "head")
        self.expect("Edition e", 0, "head")
        self.expect(edition("edition f"), 1, "head")
        for word in ("unit", "inner", "start", "there", "nothing", "late", "it", "7", "first\tx"):
            self.expect(edition("routine f open", "end", word + " a"), 3, "head")
            self.expect(edition(word + " a b c d e f g"), 1, "head")
        self.expect(edition("there a else 1"), 1, "head")

    def test_order_of_kinds(self):
        kinds = ["number n 1", "cell c open 0", "wants w", "routine f open"]
        for late in range(4):
            for early in range(late):
                rows = ["end"] if late == 3 else []
                self.expect(edition(kinds[late], *rows, kinds[early]), 2 + len(rows), "head")
        for row in ("tell 1", "set c.0 1", "same 1 1 else 1", "call f 1", "end"):
            self.expect(edition(row), 1, "head")
            self.expect(edition(*kinds[:3], row), 4, "head")
        self.fine(edition(*kinds, "end"))
        self.fine(edition(kinds[0], kinds[3], "end", "first a", "end", "routine g open", "end"))

    def test_count(self):
        wrong = ["number", "number n", "number n 1 2", "cell c", "cell c open", "cell c open 1 2 3", "wants",
                 "wants a b", "first", "first a after", "first a b", "routine", "routine f", "routine f open at",
                 "routine f open at 1 default x", "routine f open default", "routine f open 1"]
        for line in wrong:
            self.expect(edition(line), 1, "count")
        rows = ["tell", "tell 1 2", "set", "set c.0", "set c.0 1 2", "same", "same 1 1", "same 1 1 else",
                "same 1 1 else 1 2", "call", "call f", "call f 1 at", "call f 1 at 2 3", "call f 1 2", "end 1"]
        for row in rows:
            self.expect(edition("routine f open", row), 2, "count")
        self.expect("edition", 0, "count")
        self.expect("edition e f", 0, "count")

    def test_count_for_missing_words(self):
        wrong = ["cell c guarded 1", "cell c shut 1", "cell c 1 1", "first a before b", "first a b after",
                 "routine f shut", "routine f at at 1", "routine f open on 1", "routine f open at 1 best",
                 "routine f default at 1 open", "cell C guarded x", "routine F shut"]
        for line in wrong:
            self.expect(edition(line), 1, "count")
        for row in ("same 1 1 skip 1", "same 1 else 1 1", "call f 1 on 2", "call F x on 0"):
            self.expect(edition("routine f open", row), 2, "count")
        self.fine(edition("cell c open 1", "cell d hidden 1", "routine f open", "end", "routine g guarded", "end",
                          "routine h hidden", "end"))

    def test_name(self):
        wrong = ["A", "1a", "a-b", "a_b", "a.b", "a" * 13, "$a", "#a", "aB", "\u00e4", "a\u0660", "-"]
        for name in wrong:
            self.expect("edition " + name, 0, "name")
            for line in ("number {} 1", "cell {} open 1", "wants {}", "first {}", "first a after {}",
                         "first a after b {}", "routine {} open", "routine {} hidden at 1 default"):
                self.expect(edition(line.format(name)), 1, "name")
            self.expect(edition("routine f open", f"call {name} 1"), 2, "name")
        for name in ("a", "a" * 12, "z9", "it", "end", "open", "tell"):
            self.fine("edition " + name)
            self.fine(edition(f"wants {name}", "routine f open", f"call {name} 1"))

    def test_number(self):
        wrong = ["x", "-0", "00", "01", "-01", "1234567890", "-1234567890", "--1", "+1", "1.0", "-", "it", "\u0661",
                 "1_0"]
        for numeral in wrong:
            for line in ("number n {}", "cell c open {}", "cell c open {} 1", "cell c open 1 {}"):
                self.expect(edition(line.format(numeral)), 1, "number")
            self.expect(edition("routine f open", f"same 1 1 else {numeral}", "end"), 2, "number")
        for numeral in ("0", "-1", "9", "123456789", "-999999999"):
            self.fine(edition(f"number n {numeral}", f"cell c open 1 {numeral}"))
        for tag in ("0", "10", "x", "-1", "11", "\u0661"):
            self.expect(edition(f"routine f open at {tag}"), 1, "number")
            self.expect(edition(f"routine f open at {tag} default"), 1, "number")
            self.expect(edition("routine f open", f"call f 1 at {tag}"), 2, "number")
        for tag in ("1", "9"):
            self.fine(edition(f"routine f open at {tag}", "end"))

    def test_value(self):
        wrong = ["x", "$own", "#", "#A", "#" + "a" * 13, "c.", "c.10", ".0", "c.x", "c.0.0", "C.0", "It", "-0", "01",
                 "1234567890", "c", "c.-1", "a" * 13 + ".0"]
        for value in wrong:
            for row in ("tell {}", "set c.0 {}", "same {} 1 else 1", "same 1 {} else 1", "call f {}",
                        "call f {} at 1"):
                self.expect(edition("routine f open", row.format(value)), 2, "value")
        for place in wrong + ["5", "it", "#n"]:
            self.expect(edition("routine f open", f"set {place} 1"), 2, "value")

    def test_words_of_a_line_from_left_to_right(self):
        self.expect(edition("number N x"), 1, "name")
        self.expect(edition("cell C open x"), 1, "name")
        self.expect(edition("routine F open at 0"), 1, "name")
        self.expect(edition("routine f open", "call F x at 0"), 2, "name")
        self.expect(edition("routine f open", "call f x at 0"), 2, "value")
        self.expect(edition("routine f open", "same 1 x else y"), 2, "value")
        self.expect(edition("routine f open", "same 1 1 else y"), 2, "number")

    def test_lines_by_themselves_in_order(self):
        self.expect(edition("wants W", "wants  w"), 1, "name")
        self.expect(edition("wants  w", "wants W"), 1, "words")
        self.expect(edition("tell", "wants"), 1, "head")

    def test_a_line_by_itself_comes_first(self):
        # Line 2 is wrong against the whole text, line 4 by itself.
        self.expect(edition("wants w", "wants w", "routine f open", "tell x"), 4, "value")
        self.expect(edition("wants w", "wants w", "routine f open", "tell 1"), 2, "twice")
        self.expect(edition("routine f open", "tell c.0", "end "), 3, "words")
        # Lines 1 and 2 form a ring, line 4 is wrong against the text.
        self.expect(edition("routine f open", "call f 1", "routine g open", "tell c.0"), 4, "unknown")
        self.expect(edition("routine f open", "call f 1", "routine g open"), 3, "empty")

    def test_many(self):
        self.expect(edition("number a 1", "number b 1", "number c 1", "number d 1"), 4, "many")
        self.fine(edition("number a 1", "number b 1", "number c 1"))
        self.expect(edition("cell a open 1", "cell b open 1", "cell c open 1"), 3, "many")
        self.expect(edition("cell a open 1", "cell b open 1 1"), 2, "many")
        self.expect(edition("cell a open 1 1", "cell b open 1"), 2, "many")
        self.fine(edition("cell a open 1", "cell b hidden 1"))
        self.fine(edition("cell a open 1 1"))
        self.expect(edition("wants a", "wants b", "wants c"), 3, "many")
        self.fine(edition("wants a", "wants b"))
        self.expect(edition("first a", "end", "first b", "end", "first c", "end"), 5, "many")
        self.fine(edition("first a", "end", "first b", "end"))
        routines = [line for name in "abcde" for line in (f"routine {name} open", "end")]
        self.expect(edition(*routines), 9, "many")
        self.fine(edition(*routines[:8], "first a", "end", "first b", "end"))
        self.expect(edition("routine f open", *["end"] * 9), 10, "many")
        self.fine(edition("routine f open", *["end"] * 8))
        self.expect(edition("first f", *["end"] * 9), 10, "many")

    def test_many_comes_ahead_of_the_other_causes(self):
        self.expect(edition("number a 1", "number b 1", "number c 1", "number a 1"), 4, "many")
        self.expect(edition("cell a open 1 1", "cell a open 1"), 2, "many")
        self.expect(edition("wants a", "wants b", "wants b"), 3, "many")
        self.expect(edition("first a", "end", "first b", "end", "first a"), 5, "many")
        routines = [line for name in "abcd" for line in (f"routine {name} open", "end")]
        self.expect(edition(*routines, "routine a open"), 9, "many")
        self.expect(edition("first f", *["end"] * 8, "tell it"), 10, "many")

    def test_twice(self):
        self.expect(edition("number a 1", "number b 1", "number a 2"), 3, "twice")
        self.expect(edition("cell a open 1", "cell a hidden 1"), 2, "twice")
        self.expect(edition("wants a", "wants a"), 2, "twice")
        self.expect(edition("first a", "end", "first a"), 3, "twice")
        self.expect(edition("routine a open", "end", "routine b open", "end", "routine a hidden"), 5, "twice")
        self.expect(edition("routine a open at 1 default", "end", "routine a open at 1 default"), 3, "twice")
        self.fine(edition("number a 1", "cell a open 1", "first a", "end", "routine a open", "end"))
        self.fine(edition("number a 1", "cell a open 1", "wants a", "first a", "end"))
        self.fine(edition("routine a open at 1", "end", "routine a open at 2", "end"))

    def test_mixed(self):
        self.expect(edition("routine a open", "end", "routine a open at 1"), 3, "mixed")
        self.expect(edition("routine a open at 1", "end", "routine a open"), 3, "mixed")
        self.expect(edition("routine a open at 1", "end", "routine b open", "end", "routine a open at 2", "end",
                            "routine a open"), 7, "mixed")

    def test_default(self):
        self.expect(edition("routine a open at 1 default", "end", "routine a open at 2 default"), 3, "default")
        self.fine(edition("routine a open at 1 default", "end", "routine b open at 1 default", "end"))
        self.fine(edition("routine a open at 1", "end", "routine a open at 2 default", "end"))

    def test_wanted(self):
        self.expect(edition("wants a", "routine a open"), 2, "wanted")
        self.expect(edition("wants a", "routine a hidden at 1", "end", "routine a hidden at 2"), 2, "wanted")
        self.fine(edition("wants a", "first a", "end"))
        # The causes ahead of it.
        self.expect(edition("wants a", "routine a open", "end"), 2, "wanted")

    def test_empty(self):
        self.expect(edition("first a"), 1, "empty")
        self.expect(edition("routine a open"), 1, "empty")
        self.expect(edition("routine a open", "first b", "end"), 1, "empty")
        self.expect(edition("first a after b"), 1, "empty")

    def test_after(self):
        self.expect(edition("first a after b", "end"), 1, "after")
        self.expect(edition("first a after b c", "end", "first b", "end"), 1, "after")
        self.expect(edition("first a after b", "end", "routine b open", "end"), 1, "after")
        self.fine(edition("first a after b b", "end", "first b", "end"))
        self.fine(edition("first b", "end", "first a after b", "end"))

    def test_unknown_values(self):
        for row in ("tell #m", "tell x.0", "tell c.1", "set x.0 1", "set c.1 1", "set c.0 #m", "same #m 1 else 1",
                    "same 1 x.0 else 1", "call g #m at 1", "call w c.9"):
            self.assertEqual(body(row, "end"), (0, "unknown"), row)
        self.assertIsNone(body("tell #n", "set d.0 c.0"))
        self.fine(edition("cell c open 0 0", "routine f open", "set c.1 c.0"))
        self.expect(edition("cell c open 0 0", "routine f open", "set c.2 c.0"), 3, "unknown")

    def test_unknown_calls(self):
        for row in ("call x 1", "call w 1 at 1", "call g 1", "call g 1 at 2", "call h 1 at 2", "call i 1 at 1"):
            self.assertEqual(body(row), (0, "unknown"), row)
        for row in ("call w 1", "call g 1 at 1", "call h 1", "call h 1 at 1"):
            self.assertIsNone(body(row), row)
        self.expect(edition("routine g hidden", "end", "routine f open", "call g 1 at 1"), 4, "unknown")
        self.fine(edition("routine f open", "call g 1", "routine g hidden", "end"))

    def test_a_first_block_is_not_called(self):
        self.expect(edition("first a", "end", "routine f open", "call a 1"), 4, "unknown")
        self.expect(edition("first a", "call a 1"), 2, "unknown")
        self.expect(edition("first a after b b b", "end", "first b", "call a 1"), 4, "unknown")

    def test_argument(self):
        for row in ("tell it", "same 1 it else 1", "call g it at 1", "set c.0 it"):
            self.assertEqual(body("call w 1", row, "end"), (1, "argument"), row)
            self.assertEqual(body("call w 1", "tell 1", row, "end"), (2, "argument"), row)
            self.assertIsNone(body(row, "end"), row)
            self.expect(edition("cell c open 0", "wants w", "first a", row.replace("g", "w").replace(" at 1", ""),
                                "end"), 4, "argument")
        self.assertIsNone(body("tell it", "call w it"))
        self.assertEqual(body("call w it", "call w it"), (1, "argument"))
        # A skip does not matter, and the next block has its argument again.
        self.assertEqual(body("same 1 2 else 1", "call w 1", "tell it"), (2, "argument"))
        self.fine(edition("wants w", "routine f open", "call w 1", "routine g open", "tell it"))

    def test_values_of_a_row_from_left_to_right(self):
        self.assertEqual(body("call w 1", "same it #m else 9", "end"), (1, "argument"))
        self.assertEqual(body("call w 1", "same #m it else 9", "end"), (1, "unknown"))
        self.assertEqual(body("call w 1", "set x.0 it"), (1, "unknown"))
        self.assertEqual(body("call w 1", "call x it"), (1, "argument"))
        self.assertEqual(body("same 1 #m else 9"), (0, "unknown"))

    def test_skip(self):
        for skip, count, good in ((1, 1, True), (0, 1, False), (-1, 1, False), (2, 1, False), (2, 2, True),
                                  (7, 7, True), (8, 7, False), (1, 0, False), (999999999, 7, False)):
            found = body(f"same 1 1 else {skip}", *["end"] * count)
            self.assertEqual(found, None if good else (0, "skip"), (skip, count))
        self.assertEqual(body("end", "same 1 1 else 2", "end"), (1, "skip"))

    def test_ring_of_calls(self):
        self.expect(edition("routine f open", "call f it"), 1, "ring")
        self.expect(edition("first a", "call f 1", "routine f open", "call g 1", "routine g hidden", "call f 1"),
                    3, "ring")
        self.expect(edition("routine h open", "call f 1", "routine f open at 1 default", "call g 1",
                            "routine g hidden", "call f 1"), 3, "ring")
        self.expect(edition("routine a open", "call b 1", "routine b open", "call c 1", "routine c open",
                            "call d 1", "routine d open", "call b 1"), 3, "ring")
        # Another member of the same name is no ring, neither is a wanted name.
        self.fine(edition("wants w", "routine f open at 1", "call f 1 at 2", "call w 1", "routine f open at 2",
                          "end"))
        self.fine(edition("routine a open", "call b 1", "call c 1", "routine b open", "call c 1",
                          "routine c open", "end"))

    def test_ring_of_needs(self):
        self.expect(edition("routine f open", "end", "first a after a", "end"), 3, "ring")
        self.expect(edition("first a after b", "end", "first b after a", "end"), 1, "ring")
        self.expect(edition("first a after b", "end", "first b after b", "end"), 3, "ring")
        self.expect(edition("first b after b", "end", "routine f open", "call f 1"), 1, "ring")
        self.expect(edition("routine f open", "call f 1", "first b after b", "end"), 1, "ring")

    def test_long(self):
        # The work of a: 8 rows, of b: 8 + 8 * k, of c: its rows and those of what it calls.
        def text(*last):
            return edition("routine c open", *last, "routine b open", *["call a 1"] * 8, "routine a open",
                           *["end"] * 8)

        self.fine(text("call b 1", *["call a 1"] * 2, *["end"] * 2))
        self.assertEqual(Edition.read(text("call b 1", "call a 1", "call a 1", "end", "end")).work(
            Edition.read(text("end")).blocks[0]), 1)
        # 72 + 8 + 8 + 8 and 4 rows are 100.
        exact = ["call b 1", "call a 1", "call a 1", "call d 1"]
        self.fine(edition("first x", *exact, "routine d hidden", *["end"] * 8, "routine b open",
                          *["call a 1"] * 8, "routine a open", *["end"] * 8))
        self.expect(edition("first x", *exact, "end", "routine d hidden", *["end"] * 8, "routine b open",
                            *["call a 1"] * 8, "routine a open", *["end"] * 8), 1, "long")
        self.expect(edition("routine a open", *["end"] * 8, "routine b open", *["call a 1"] * 8,
                            "routine c open", "call b 1", "call b 1"), 19, "long")
        self.fine(edition("wants w", "routine a open", *["call w 1"] * 8))

    def test_ring_comes_ahead_of_long(self):
        self.expect(edition("routine b open", *["call a 1"] * 8, "routine a open", *["call d 1"] * 8,
                            "routine d open", *["end"] * 8, "routine r open", "call r 1"), 28, "ring")
        self.expect(edition("routine b open", *["call a 1"] * 8, "routine a open", *["call d 1"] * 8,
                            "routine d open", *["end"] * 8, "routine r open", "end"), 1, "long")


if __name__ == "__main__":
    unittest.main()
