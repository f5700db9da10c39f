"""The order of the first blocks (4.2)."""

import unittest

from quietedition.editions import Edition
from quietedition.ordering import first_order


def order(*heads):
    lines = ["edition e", "routine f open", "end"]
    for head in heads:
        lines.extend([head, "end"])
    return first_order(edition=Edition.read("\n".join(lines)))


class Ordering(unittest.TestCase):
    def test_none_and_one(self):
        self.assertEqual(order(), [])
        self.assertEqual(order("first a"), ["a"])

    def test_two(self):
        self.assertEqual(order("first b", "first a"), ["b", "a"])
        self.assertEqual(order("first a", "first b"), ["a", "b"])
        self.assertEqual(order("first b", "first a after b"), ["b", "a"])
        self.assertEqual(order("first b after a", "first a"), ["a", "b"])
        self.assertEqual(order("first a after b b", "first b"), ["b", "a"])

    def test_the_first_ready_one_is_taken_again_and_again(self):
        # More first blocks than a text may have: behind each one the search begins anew.
        one = Edition.read("edition e\nfirst a\nend").firsts[0]
        made = Edition("e", {}, {}, [], [one.__class__(name, after, one.rows) for name, after in (
            ("a", ["c"]), ("b", ["a"]), ("c", []), ("d", []))])
        self.assertEqual(first_order(made), ["c", "a", "b", "d"])

    def test_lists_are_new(self):
        made = Edition.read("edition e\nfirst a\nend")
        first_order(made).append("x")
        self.assertEqual(first_order(made), ["a"])


if __name__ == "__main__":
    unittest.main()
