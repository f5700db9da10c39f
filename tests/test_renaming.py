"""Renamings (6.r1 to 6.r3)."""

import itertools
import random
import unittest

from quietedition.editions import Edition
from quietedition.errors import BadRenaming
from quietedition.renaming import Renaming, numbers_in, numbers_of
from quietedition.runs import outcome
from quietedition.units import Client, Unit
from quietedition.world import World
from tests.making import changed, edition, some_client, some_edition

LIB = """edition e5
number most 5
number n7 7
cell box5 open 5 1
wants w1
first f1 after f2
same box5.1 1 else 2
call r1 5 at 2
set box5.0 #most
first f2
tell 2
routine r1 guarded at 1
same it 2 else 1
call w1 it
end
routine r1 open at 2 default
tell -5"""
PART = """unit u5 late
cell c5 5
cell c1 1
routine r5
same it 5 else 1
there n1 else 1
call f1 1 at 1
inner i2
set box.1 2
set $c5 $c1
start
call f5 5 at 5
tell #n5"""


def fault(*arguments):
    """The field of the BadRenaming that making one raises, or None."""
    try:
        Renaming(*arguments)
    except BadRenaming as error:
        return error.at
    return None


def swap_fault(n, m):
    try:
        Renaming.swap(n, m)
    except BadRenaming as error:
        return error.at
    return None


class Numbers(unittest.TestCase):
    def test_numbers(self):
        self.assertEqual(numbers_of(Edition.read(LIB)), [-5, 1, 2, 5, 7])
        self.assertEqual(numbers_of(edition()), [])
        self.assertEqual(numbers_of(edition("number most 4", "cell box hidden 9 -2", "first f", "same 3 3 else 1",
                                            "tell 8")), [-2, 3, 4, 8, 9])
        self.assertEqual(numbers_in(Client.of(PART)), [1, 2, 5])
        self.assertEqual(numbers_in(Client.of("unit b\ncell c 9", "unit a\nstart\ntell 8\nset box.3 -4\n"
                                              "same 1 2 else 1\nend")), [-4, 1, 2, 8, 9])
        self.assertEqual(numbers_in(client=Client.of("unit b")), [])
        numbers_of(Edition.read(LIB)).clear()
        self.assertEqual(len(numbers_of(edition=Edition.read(LIB))), 5)


class Making(unittest.TestCase):
    def test_no_list(self):
        for thing in (None, 0, True, "", "12", "ab", -1):
            self.assertEqual(fault(thing), -1, thing)
        self.assertEqual([fault(), fault(()), fault([])], [None] * 3)

    def test_bad_items(self):
        good = (4, 4)
        for item in (None, 1, "12", (), (1,), (1, 2, 3), (1, "2"), ("1", 2), (1, None), (True, 1), (1, True),
                     (False, False), (1, (2,)), [[1], 2], 1000000000, (1000000000, 1), (1, -1000000000),
                     (10 ** 29, 10 ** 29), [1, 2, 3], True):
            self.assertEqual(fault([item]), 0, item)
            self.assertEqual(fault((good, item)), 1, item)
            self.assertEqual(fault([good, [5, 6], item, None]), 2, item)
        self.assertIsNone(fault([(999999999, -999999999), [-999999999, 999999999]]))

    def test_earlier_pairs(self):
        self.assertEqual(fault([(1, 2), (2, 1), (1, 3)]), 2)
        self.assertEqual(fault([(1, 2), (2, 1), (3, 2)]), 2)
        self.assertEqual(fault([(1, 1), (1, 1)]), 1)
        self.assertEqual(fault([(1, 2), (3, 2), (1, 5)]), 1)
        self.assertEqual(fault([(1, 2), (3, 4), (5, 4), None]), 2)

    def test_no_permutation(self):
        self.assertEqual(fault([(1, 2), (2, 3)]), 1)
        self.assertEqual(fault([(1, 2)]), 0)
        self.assertEqual(fault([(1, 2), (2, 1), (3, 4), (5, 3)]), 2)
        self.assertEqual(fault([(3, 4), (1, 1)]), 0)

    def test_the_order_of_the_checks(self):
        self.assertEqual(fault([(1, 2), (3, 3), (1, 9), "x"]), 2)
        self.assertEqual(fault([(1, 2), (3, 3), "x", (1, 9)]), 2)
        self.assertEqual(fault([(7, 8), (3, 3), (2, True)]), 2)

    def test_swap(self):
        self.assertEqual(Renaming.swap(1, 2), Renaming([(1, 2), (2, 1)]))
        self.assertEqual(Renaming.swap(n=-3, m=4).moved, ((-3, 4), (4, -3)))
        self.assertEqual(Renaming.swap(6, 6), Renaming())
        for n, m in ((True, 1), (1, True), (None, None), ("1", "1"), (1, [2]), (10 ** 9, 1), (1, -10 ** 9),
                     (10 ** 9, 10 ** 9), (False, 0)):
            self.assertEqual(swap_fault(n, m), 0, (n, m))
        self.assertIsNone(swap_fault(999999999, -999999999))


class Algebra(unittest.TestCase):
    def test_the_example(self):
        r = Renaming([(1, 2), (2, 5), (5, 1)])
        self.assertEqual([r(1), r(2), r(5), r(7)], [2, 5, 1, 7])
        self.assertEqual((r * r)(1), 5)
        self.assertEqual(r.inverse()(1), 5)

    def test_moved_and_len(self):
        pairs = [[5, 1], (9, 9), (1, 2), (2, 5)]
        r = Renaming(pairs)
        pairs[0][1] = 77
        self.assertEqual(r.moved, ((1, 2), (2, 5), (5, 1)))
        self.assertEqual(len(r), 3)
        self.assertEqual(r(9), 9)
        self.assertEqual(len(Renaming([(3, 3)])), 0)
        self.assertEqual(Renaming(pairs=[(3, 3), (4, 4)]), Renaming())
        self.assertEqual(r(10 ** 30), 10 ** 30)

    def test_equal(self):
        self.assertEqual(Renaming([(1, 2), (2, 1)]), Renaming(((2, 1), (1, 2), (7, 7))))
        self.assertNotEqual(Renaming([(1, 2), (2, 1)]), Renaming([(1, 3), (3, 1)]))
        self.assertNotEqual(Renaming(), ())
        self.assertNotEqual(Renaming(), None)

    def test_keeps(self):
        r = Renaming([(1, 2), (2, 1)])
        self.assertIs(r.keeps([]), True)
        self.assertIs(r.keeps((3, 0, 10 ** 20)), True)
        self.assertIs(r.keeps([3, 2]), False)
        self.assertIs(r.keeps(numbers=(1,)), False)

    def test_products_and_inverses(self):
        whole = [Renaming(list(zip((1, 2, 5), image))) for image in itertools.permutations((1, 2, 5))]
        other = Renaming([(2, 8), (8, 9), (9, 2)])
        for r, s in itertools.product(whole + [other], repeat=2):
            for n in range(11):
                self.assertEqual((r * s)(n), r(s(n)))
                self.assertEqual(r.inverse()(r(n)), n)
            self.assertEqual(r * r.inverse(), Renaming())
            self.assertEqual((r * s).inverse(), s.inverse() * r.inverse())
            self.assertEqual(r * Renaming(), r)
            self.assertEqual(Renaming() * s, s)
        r, s = Renaming.swap(1, 2), Renaming.swap(2, 3)
        self.assertEqual((r * s)(3), 1)
        self.assertNotEqual(r * s, s * r)
        self.assertEqual(len(r), 2)


class Texts(unittest.TestCase):
    R = Renaming([(1, 20), (20, 2), (2, 5), (5, -9), (-9, -5), (-5, 1)])

    def test_edition(self):
        wanted = (LIB.replace("most 5", "most -9").replace("open 5 1", "open -9 20").replace("box5.1 1 e", "box5.1 20 e")
                  .replace("r1 5 at", "r1 -9 at").replace("it 2 else", "it 5 else").replace("tell -5", "tell 1")
                  .replace("first f2\ntell 2", "first f2\ntell 5"))
        made = Edition.read(LIB)
        self.assertEqual(self.R.of_edition(made).text(), wanted)
        self.assertEqual(made.text(), LIB)
        self.assertEqual(self.R.inverse().of_edition(edition=self.R.of_edition(made)), made)
        self.assertEqual(Edition.read(wanted), self.R.of_edition(made))

    def test_unit(self):
        wanted = (PART.replace("c5 5", "c5 -9").replace("c1 1", "c1 20").replace("it 5 else", "it -9 else")
                  .replace("f1 1 at", "f1 20 at").replace("box.1 2", "box.1 5").replace("f5 5 at", "f5 -9 at"))
        made = Unit.read(PART)
        self.assertEqual(self.R.of_unit(made).text(), wanted)
        self.assertEqual(self.R.of_unit(unit=made), Unit.read(wanted))
        client = Client.of("unit z", PART, "unit a\nstart\ntell 2")
        self.assertEqual(self.R.of_client(client=client).texts(), ["unit z", wanted, "unit a\nstart\ntell 5"])
        self.assertEqual(client.texts()[1], PART)

    def test_rows(self):
        rows = [("edition", 1), ("client", 5), ("client", 77), ("refused", "linking", "name", "f1"), ("lost", "f1"),
                ("end", "plain"), ("end", "long")]
        wanted = [("edition", 20), ("client", -9)] + rows[2:]
        self.assertEqual(self.R.of_rows(rows), wanted)
        self.assertEqual(rows[0], ("edition", 1))
        self.assertIsNot(self.R.of_rows([]), self.R.of_rows([]))
        self.assertEqual(Renaming().of_rows(rows=rows), rows)
        self.assertIsNot(Renaming().of_rows(rows), rows)


class Runs(unittest.TestCase):
    def test_runs_under_a_renaming(self):
        chance = random.Random(93)
        stages = set()
        for _ in range(500):
            elder = some_edition(chance, most_rows=4)
            newer = changed(chance, elder)
            client = some_client(chance, elder, newer)
            r = Renaming(list(zip(range(-2, 5), chance.sample(range(-2, 5), 7))))
            for editions in ((elder,) * 3, (elder, elder, newer), (newer, elder, newer)):
                rows = outcome(client, World(*editions), limit=50)
                world = World(*[r.of_edition(part) for part in editions])
                self.assertEqual(outcome(r.of_client(client), world, limit=50), r.of_rows(rows))
                stages.add(rows[-1][0])
            numbers = numbers_of(elder)
            self.assertEqual(numbers_of(r.of_edition(elder)), sorted(r(n) for n in numbers))
            self.assertEqual(numbers_in(r.of_client(client)), sorted(r(n) for n in numbers_in(client)))
            if r.keeps(numbers):
                self.assertEqual(r.of_edition(elder), elder)
        self.assertIn("end", stages)


if __name__ == "__main__":
    unittest.main()
