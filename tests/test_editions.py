"""Editions, members and calls of an edition (1.5 to 1.7, the interface of editions)."""

import unittest

from quietedition.editions import Edition, First, Member
from quietedition.rows import Call, End, Put, Same, Tell

from tests.test_edition_read import GOOD, edition

ONE = ("number", 1)
IT = ("argument",)


def read(*lines):
    return Edition.read(edition(*lines))


def good_parts():
    """The parts of GOOD."""
    blocks = [
        First("one", ["two"], [Call("ask", ("number", 3)), Call("back", ("named", "least"))]),
        First("two", [], [Put(("place", "hut", 0), ("place", "box", 0))]),
        Member("ask", "open", 1, False, [Same(IT, ("named", "most"), 1), Tell(IT), Call("put", IT, 2), End()]),
        Member("ask", "guarded", 2, True, [Tell(("place", "box", 0))]),
        Member("put", "hidden", 2, False, [Put(("place", "box", 0), IT)]),
    ]
    return ["lib", {"most": 7, "least": -3}, {"box": ("open", (1,)), "hut": ("hidden", (-2,))}, ["back"], blocks]


class Parts(unittest.TestCase):
    def test_read_attributes(self):
        made = Edition.read(GOOD)
        name, numbers, cells, wants, blocks = good_parts()
        self.assertEqual((made.name, made.numbers, made.cells, made.wants, made.blocks),
                         (name, numbers, cells, tuple(wants), tuple(blocks)))
        self.assertEqual((list(made.numbers), list(made.cells)), (["most", "least"], ["box", "hut"]))
        self.assertEqual(made.firsts, tuple(blocks[:2]))
        self.assertEqual(made.members, tuple(blocks[2:]))
        self.assertEqual(Edition.read(text="edition e").blocks, ())

    def test_text_gives_the_read_text(self):
        for text in (GOOD, "edition e", edition("cell a hidden 1 -2", "first a after b b", "end", "first b", "tell 0"),
                     edition("wants b", "wants a", "routine f open", "call b it"),
                     edition("first b", "end", "routine f open at 9", "same it it else 1", "call f2 1 at 1",
                             "routine f2 hidden at 1 default", "set c.0 1").replace("e\n", "e\ncell c open 0\n", 1)):
            self.assertEqual(Edition.read(text).text(), text)
            self.assertEqual(str(Edition.read(text)), text)

    def test_equal_by_parts(self):
        self.assertEqual(Edition(*good_parts()), Edition.read(GOOD))
        self.assertEqual(Edition(*good_parts()).text(), GOOD)
        name, numbers, cells, wants, blocks = good_parts()
        self.assertEqual(Edition(blocks=tuple(blocks), wants=tuple(wants), cells=cells, numbers=numbers, name=name),
                         Edition.read(GOOD))
        others = [
            ["lab", numbers, cells, wants, blocks],
            [name, {"most": 7, "least": -4}, cells, wants, blocks],
            [name, {"least": -3, "most": 7}, cells, wants, blocks],
            [name, numbers, {"box": ("hidden", (1,)), "hut": ("hidden", (-2,))}, wants, blocks],
            [name, numbers, {"box": ("open", (1,)), "hut": ("hidden", (2,))}, wants, blocks],
            [name, numbers, cells, ["back", "more"], blocks],
            [name, numbers, cells, wants, blocks[:-1]],
            [name, numbers, cells, wants, [blocks[1], blocks[0]] + blocks[2:]],
        ]
        for parts in others:
            self.assertNotEqual(Edition(*parts), Edition.read(GOOD))
        self.assertNotEqual(Edition.read(GOOD), GOOD)
        self.assertNotEqual(Edition.read(GOOD), None)

    def test_blocks_are_equal_by_fields(self):
        rows = [End()]
        first = First("a", ["b", "c"], rows)
        self.assertEqual(first, First("a", ("b", "c"), tuple(rows)))
        for other in (First("x", ["b", "c"], rows), First("a", ["c", "b"], rows), First("a", ["b", "c", "c"], rows),
                      First("a", ["b", "c"], []), First("a", ["b", "c"], [Tell(ONE)]),
                      Member("a", "open", 0, False, rows), "first a after b c"):
            self.assertNotEqual(first, other)
        member = Member("a", "open", 1, True, rows)
        self.assertEqual(member, Member(name="a", access="open", tag=1, is_default=True, rows=(End(),)))
        for other in (Member("b", "open", 1, True, rows), Member("a", "hidden", 1, True, rows),
                      Member("a", "open", 2, True, rows), Member("a", "open", 1, False, rows),
                      Member("a", "open", 1, True, [End(), End()]), First("a", [], rows), None):
            self.assertNotEqual(member, other)

    def test_tuples_and_heads(self):
        first = First("a", ["b", "c", "b"], [End()])
        self.assertEqual((first.name, first.after, first.rows), ("a", ("b", "c", "b"), (End(),)))
        self.assertEqual(first.head(), "first a after b c b")
        self.assertEqual(First("a", (), []).head(), "first a")
        self.assertEqual(Member("f", "open", 0, False, []).head(), "routine f open")
        self.assertEqual(Member("f", "guarded", 3, False, []).head(), "routine f guarded at 3")
        self.assertEqual(Member("f", "hidden", 4, True, []).head(), "routine f hidden at 4 default")
        member = Member("f", "hidden", 4, True, [End()])
        self.assertEqual((member.name, member.access, member.tag, member.is_default, member.rows),
                         ("f", "hidden", 4, True, (End(),)))

    def test_arguments_are_copied(self):
        after, rows = ["b"], [End()]
        first, member = First("a", after, rows), Member("f", "open", 0, False, rows)
        after.append("c")
        rows.append(End())
        self.assertEqual((first.after, first.rows, member.rows), (("b",), (End(),), (End(),)))
        parts = good_parts()
        integers = [1]
        parts[2]["box"] = ("open", integers)
        made = Edition(*parts)
        integers.append(2)
        parts[1]["more"] = 1
        parts[2]["more"] = ("open", (1,))
        parts[3].append("more")
        parts[4].pop()
        self.assertEqual(made, Edition.read(GOOD))
        self.assertEqual(made.cells["box"], ("open", (1,)))

    def test_lists_are_new(self):
        made = Edition.read(GOOD)
        for told in (made.offers, made.entries, made.written, made.places, made.first_values):
            before = told()
            told().append("more")
            self.assertEqual(told(), before)


class Members(unittest.TestCase):
    def setUp(self):
        self.made = read("routine u open", "end", "routine t hidden at 1", "end", "routine t guarded at 2 default",
                         "tell 2", "routine v open at 3", "tell 3")

    def test_member(self):
        u, t1, t2, v3 = self.made.members
        self.assertEqual(self.made.member("u"), u)
        self.assertEqual(self.made.member("u", 0), u)
        self.assertIsNone(self.made.member("u", 1))
        self.assertEqual(self.made.member("t", 1), t1)
        self.assertEqual(self.made.member("t", 2), t2)
        self.assertEqual(self.made.member("t"), t2)
        self.assertIsNone(self.made.member("t", 3))
        self.assertIsNone(self.made.member("v"))
        self.assertEqual(self.made.member(name="v", tag=3), v3)
        self.assertIsNone(self.made.member("w"))

    def test_visible(self):
        u, t1, t2, v3 = self.made.members
        self.assertEqual([self.made.visible("u"), self.made.visible("t"), self.made.visible("t", 2),
                          self.made.visible(name="v", tag=3)], [u, t2, t2, v3])
        for name, tag in (("t", 1), ("v", 0), ("w", 0), ("u", 1)):
            self.assertIsNone(self.made.visible(name, tag))
        hidden = read("routine h hidden at 1 default", "end", "routine h open at 2", "end")
        self.assertIsNone(hidden.visible("h"))
        self.assertIsNone(hidden.visible("h", 1))
        self.assertEqual(hidden.visible("h", 2).tag, 2)

    def test_offers(self):
        self.assertEqual(self.made.offers(), ["t", "u", "v"])
        self.assertEqual(read("routine h hidden", "end", "routine b guarded at 1", "end", "routine b open at 2",
                              "end", "routine a open", "end").offers(), ["a", "b"])
        self.assertEqual(read("wants w", "routine h hidden", "end").offers(), [])

    def test_entries(self):
        made = read("wants z", "wants y", "routine o open", "call g 1", "call h 1", "call t 1 at 1",
                    "routine g guarded", "end", "routine h hidden", "end", "routine t guarded at 1", "end")
        self.assertEqual(made.entries(), ["y", "z"])
        made = read("wants z", "first a", "call t 1", "call t 1 at 2", "routine t guarded at 1", "end",
                    "routine t open at 2 default", "call b 1", "routine b open", "end", "routine c open", "end")
        self.assertEqual(made.entries(), ["b", "t", "z"])
        made = read("first a", "call t 1 at 1", "routine t guarded at 1", "end", "routine t open at 2 default", "end")
        self.assertEqual(made.entries(), [])
        self.assertEqual(read("routine o open", "end").entries(), [])
        self.assertEqual(read("first a", "same 1 2 else 1", "call o 1", "routine o open", "end").entries(), ["o"])

    def test_written(self):
        made = read("number n 9", "number m -4", "number k 8", "cell c open 77 0", "wants w", "first a",
                    "same #n 3 else 5", "set c.1 -2", "call w 3", "tell #m", "tell -2", "end",
                    "routine t open at 6", "tell it", "tell c.0")
        self.assertEqual(made.written(), [-4, -2, 3, 9])
        self.assertEqual(read("cell c open 5").written(), [])

    def test_places(self):
        made = read("cell z open 5", "cell a hidden -6")
        self.assertEqual(made.places(), [("z", 0), ("a", 0)])
        self.assertEqual(made.first_values(), [5, -6])
        made = read("cell z hidden 5 4")
        self.assertEqual(made.places(), [("z", 0), ("z", 1)])
        self.assertEqual(made.first_values(), [5, 4])
        self.assertEqual((read().places(), read().first_values()), ([], []))

    def test_work(self):
        made = read("wants w", "first a", "call f 1", "call w 1", "call t 1 at 2", "end", "routine f open",
                    "call t 1", "call t 1", "tell 1", "routine t hidden at 2", "end", "end",
                    "routine t guarded at 3 default", "end", "end", "end")
        works = [made.work(block) for block in made.blocks]
        self.assertEqual(works, [4 + 9 + 2, 3 + 3 + 3, 2, 3])
        self.assertEqual(made.work(block=Edition.read(made.text()).blocks[1]), 9)


if __name__ == "__main__":
    unittest.main()
