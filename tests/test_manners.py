"""Sets of manners (1.14)."""

import itertools
import unittest

from quietedition.errors import BadManner
from quietedition.manners import Manners

ALL = ("asks", "free", "over", "shows", "straight", "tags", "within")


class MannersTest(unittest.TestCase):
    def test_names(self):
        self.assertEqual(Manners.ALL, ALL)
        self.assertEqual(Manners(["within", "asks", "within"]).names, ("asks", "within"))
        self.assertEqual(Manners(("tags",)).names, ("tags",))
        self.assertEqual(Manners([]).names, ())
        self.assertEqual(Manners(names=list(reversed(ALL))).names, ALL)
        self.assertEqual(Manners.of("over", "free"), Manners(["free", "over"]))
        self.assertEqual(Manners.of(), Manners(()))

    def test_wrong_names(self):
        for wrong in ("ask", "", "Asks", None, True, 0, ["asks"], ("asks",), [["asks"]]):
            for make in (lambda: Manners(["asks", wrong, "no"]), lambda: Manners.of("asks", wrong, "no")):
                with self.assertRaises(BadManner) as caught:
                    make()
                self.assertEqual(caught.exception.name, wrong)
                self.assertIs(type(caught.exception.name), type(wrong))

    def test_operators_are_those_of_sets(self):
        parts = [part for k in range(4) for part in itertools.combinations(ALL[2:6], k)]
        for one, two in itertools.product(parts, parts):
            a, b = Manners(one), Manners(two)
            self.assertEqual((a | b).names, tuple(sorted(set(one) | set(two))))
            self.assertEqual((a & b).names, tuple(sorted(set(one) & set(two))))
            self.assertEqual((a - b).names, tuple(sorted(set(one) - set(two))))
            self.assertEqual(a.is_part_of(b), set(one) <= set(two))
            self.assertEqual(a == b, one == two)
            self.assertEqual((a.names, b.names), (one, two))

    def test_container(self):
        some = Manners.of("tags", "asks")
        self.assertTrue("asks" in some)
        self.assertFalse("free" in some)
        self.assertFalse(None in some)
        self.assertFalse(["asks"] in some)
        self.assertEqual(len(some), 2)
        self.assertEqual(len(Manners([])), 0)
        self.assertEqual(list(some), ["asks", "tags"])
        self.assertEqual([(a, b) for a in some for b in some][1], ("asks", "tags"))

    def test_text(self):
        self.assertEqual(str(Manners.of("tags", "asks")), "asks tags")
        self.assertEqual(str(Manners.of("free")), "free")
        self.assertEqual(str(Manners([])), "none")

    def test_equal_to_nothing_of_another_class(self):
        self.assertNotEqual(Manners.of("asks"), ("asks",))
        self.assertNotEqual(Manners.of("asks"), "asks")
        self.assertNotEqual(Manners([]), None)

    def test_copies(self):
        names = ["asks"]
        some = Manners(names)
        names.append("free")
        self.assertEqual(some.names, ("asks",))


if __name__ == "__main__":
    unittest.main()
