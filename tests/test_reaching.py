"""Where call rows go, what blocks reach, and chains (3.6, 3.7)."""

import itertools
import random
import unittest

from quietedition.objects import Object
from quietedition.reaching import chain, goes_to, leaving, reached
from quietedition.rows import Call
from quietedition.units import Unit

A = """unit a
inner f
call g 1
start
call f 1
call h 2
end
call out 3 at 4"""
B = """unit b
routine f
call out 1
routine h
call deep 1 at 5
there g else 1
call f it
routine lone
call lone 1"""
C = """unit c
routine f
tell 1
routine h
call h 1
routine g
call h 1
call out 2
inner deep
call gone 1"""


def both(*texts):
    """The units, and their objects, each in every order."""
    units = [Unit.read(text) for text in texts]
    objects = [Object(unit, {"n": 1}) for unit in units]
    return [list(order) for parts in (units, objects) for order in itertools.permutations(parts)]


class Reaching(unittest.TestCase):
    def test_goes_to(self):
        for units in both(A, B, C):
            # An inner block of the same unit comes first, then a shared one of the same unit.
            self.assertEqual(goes_to(units, "a", "f"), ("a", "f"))
            self.assertEqual(goes_to(units, "b", "f"), ("b", "f"))
            self.assertEqual(goes_to(units, "c", "h"), ("c", "h"))
            # Then the first unit in ascending order that shares the name.
            self.assertEqual(goes_to(units, "a", "h"), ("b", "h"))
            self.assertEqual(goes_to(units, "b", "g"), ("c", "g"))
            # Inner blocks of other units do not count.
            self.assertIsNone(goes_to(units, "b", "deep"))
            self.assertIsNone(goes_to(units, "a", "out"))
            self.assertIsNone(goes_to(units, "a", ""))
            self.assertEqual(goes_to(units=tuple(units), unit="c", name="deep"), ("c", "deep"))

    def test_reached(self):
        for units in both(A, B, C):
            self.assertEqual(reached(units, "a", ""), [("a", ""), ("a", "f"), ("b", "f"), ("b", "h"), ("c", "g"),
                                                       ("c", "h")])
            self.assertEqual(reached(units, "b", "lone"), [("b", "lone")])
            self.assertEqual(reached(units, "c", "f"), [("c", "f")])
            self.assertEqual(reached(units, "b", "h"), [("b", "f"), ("b", "h")])
            self.assertEqual(reached(units=tuple(units), unit="c", name="g"), [("c", "g"), ("c", "h")])
            for unit, name in (("b", ""), ("a", "h"), ("d", "f"), ("d", ""), ("c", "x")):
                self.assertEqual(reached(units, unit, name), [])

    def test_leaving(self):
        for units in both(A, B, C):
            self.assertEqual(leaving(units, "a", ""), [("deep", 5), ("out", 0), ("out", 4)])
            self.assertEqual(leaving(units, "b", "h"), [("deep", 5), ("out", 0)])
            self.assertEqual(leaving(units, "b", "lone"), [])
            self.assertEqual(leaving(units=tuple(units), unit="c", name="deep"), [("gone", 0)])
            for unit, name in (("b", ""), ("d", "f")):
                self.assertEqual(leaving(units, unit, name), [])

    def test_a_call_of_an_inner_block_does_not_leave(self):
        for units in both("unit a\nstart\ncall x 1\ninner x\ncall y 1", "unit b\nroutine z\ncall x 1\ncall z 1"):
            self.assertEqual(leaving(units, "a", ""), [("y", 0)])
            self.assertEqual(leaving(units, "b", "z"), [("x", 0)])

    def test_a_tag_means_nothing_in_the_client(self):
        for units in both("unit a\nstart\ncall f 1 at 3\ncall x 1 at 3", "unit b\nroutine f\ncall y 1 at 2"):
            self.assertEqual(reached(units, "a", ""), [("a", ""), ("b", "f")])
            self.assertEqual(leaving(units, "a", ""), [("x", 3), ("y", 2)])

    def test_chain(self):
        for units in both(A, B, C):
            self.assertEqual(chain(units, "a", "", "out"), [("a", "", 3)])
            self.assertEqual(chain(units, "a", "f", "out"), [("a", "f", 0), ("c", "g", 1)])
            self.assertEqual(chain(units, "a", "", "deep"), [("a", "", 1), ("b", "h", 0)])
            self.assertEqual(chain(units, "a", "", "f"), [("a", "", 0)])
            self.assertEqual(chain(units, "b", "lone", "lone"), [("b", "lone", 0)])
            self.assertEqual(chain(units=tuple(units), unit="c", name="g", wanted="h"), [("c", "g", 0)])
            for unit, name, wanted in (("b", "lone", "out"), ("b", "", "out"), ("d", "f", "out"), ("a", "", "gone"),
                                       ("c", "f", "f"), ("a", "h", "f")):
                self.assertIsNone(chain(units, unit, name, wanted))

    def test_least_of_several_chains(self):
        # Two chains of three rows; the earlier row comes first although its block is later in order.
        text = ("unit a\nstart\ntell 1\ncall z 1\ncall b 1\nroutine b\ncall m 1\nroutine z\ncall y 1\ncall m 1\n"
                "inner m\ntell 1\ncall out 1\ncall out 2\ninner y\ncall out 1")
        for units in both(text):
            self.assertEqual(chain(units, "a", "", "out"), [("a", "", 1), ("a", "z", 0), ("a", "y", 0)])

    def test_a_longer_chain_is_not_told_although_it_is_less(self):
        text = "unit a\nstart\ncall b 1\ncall c 1\ninner b\ncall d 1\ninner c\ncall out 1\ninner d\ncall out 1"
        for units in both(text):
            self.assertEqual(chain(units, "a", "", "out"), [("a", "", 1), ("a", "c", 0)])

    def test_more_chains_than_can_be_listed(self):
        rows = 30
        blocks = [f"inner f{k}\n" + "\n".join([f"call f{k + 1} 1"] * rows) for k in range(10, 28)]
        text = "unit a\nstart\n" + "\n".join(["call f10 1"] * rows + blocks + ["inner f28", "tell 1", "call out 1"])
        for units in both(text):
            self.assertEqual(chain(units, "a", "", "out"),
                             [("a", "", 0)] + [("a", f"f{k}", 0) for k in range(10, 28)] + [("a", "f28", 1)])
            self.assertEqual(len(reached(units, "a", "")), 20)

    def test_rings(self):
        for units in both("unit a\nstart\ncall f 1\nroutine f\ncall g 1\nroutine g\ncall f 1\ncall out 1"):
            self.assertEqual(reached(units, "a", "f"), [("a", "f"), ("a", "g")])
            self.assertEqual(chain(units, "a", "", "out"), [("a", "", 0), ("a", "f", 0), ("a", "g", 1)])


def target(units, unit, name):
    """The block to which a call goes, as 3.6 says it."""
    own = [part for part in units if part.name == unit][0]
    if own.block(name) is not None:
        return (unit, name)
    others = sorted(part.name for part in units if name in part.shared())
    return (others[0], name) if others else None


def all_chains(units, block, wanted, longest):
    """All chains of at most so many rows."""
    rows = {(unit.name, part.name): part.rows for unit in units for part in unit.blocks}
    found = []
    for at, row in enumerate(rows[block]):
        if not isinstance(row, Call):
            continue
        here = (block[0], block[1], at)
        if row.name == wanted:
            found.append([here])
        elif longest > 1 and target(units, block[0], row.name) is not None:
            behind = all_chains(units, target(units, block[0], row.name), wanted, longest - 1)
            found.extend([here] + rest for rest in behind)
    return found


class AgainstAllChains(unittest.TestCase):
    def test_random_clients(self):
        chance = random.Random(7)
        for _ in range(150):
            names = "fghk"
            texts = []
            for unit in "abc":
                lines = [f"unit {unit}"]
                for name in chance.sample(names, chance.randrange(4)):
                    lines.append(chance.choice(["routine ", "inner "]) + name)
                    lines.extend(chance.choice([f"call {chance.choice(names + 'xy')} 1", "tell 1"])
                                 for _ in range(chance.randrange(1, 4)))
                if unit == "b":
                    lines.extend(["start", f"call {chance.choice(names)} 1", f"call {chance.choice(names)} 1"])
                texts.append("\n".join(lines))
            units = [Unit.read(text) for text in texts]
            blocks = [(unit.name, block.name) for unit in units for block in unit.blocks]
            for block in blocks:
                for wanted in "fxy":
                    chains = all_chains(units, block, wanted, 6)
                    best = min(chains, key=lambda rows: (len(rows), rows)) if chains else None
                    told = chain(units, block[0], block[1], wanted)
                    if best is not None or told is None or len(told) <= 6:
                        self.assertEqual(told, best)


if __name__ == "__main__":
    unittest.main()
