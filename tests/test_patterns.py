"""Patterns (6.1 to 6.5)."""

import itertools
import random
import unittest
from math import comb

from quietedition.patterns import all_patterns, choices, is_pattern, move_pattern, pattern, realise

K = "kept"
N = "new"


def ways(count):
    """The number of ways to divide so many things into classes."""
    rows = [1]
    for _ in range(count):
        new = [rows[-1]]
        for part in rows:
            new.append(new[-1] + part)
        rows = new
    return rows[0]


class Patterns(unittest.TestCase):
    def test_pattern(self):
        cases = [
            ((), [], ()),
            ((), [5], ()),
            ((4, 4, 4), [], ((N, 0), (N, 0), (N, 0))),
            ((4, 4, 4), [4], ((K, 4), (K, 4), (K, 4))),
            ((4, 5, 4, 6), [], ((N, 0), (N, 1), (N, 0), (N, 2))),
            ((4, 5, 4, 6), [6, 5], ((N, 0), (K, 5), (N, 0), (K, 6))),
            ((9, -3, 0), [0, -3, 9], ((K, 9), (K, -3), (K, 0))),
            ([10 ** 30, -10 ** 30, 10 ** 30], [], ((N, 0), (N, 1), (N, 0))),
            ([10 ** 30, -10 ** 30, 7], [-10 ** 30], ((N, 0), (K, -10 ** 30), (N, 1))),
        ]
        for values, kept, entries in cases:
            for order in itertools.permutations(kept):
                self.assertEqual(pattern(values, list(order)), entries)
                self.assertEqual(pattern(list(values), kept=list(order)), entries)

    def test_equal_patterns(self):
        """Exactly if a permutation that leaves the kept integers takes one tuple to the other."""
        kept = [0, 2]
        whole = list(itertools.product(range(4), repeat=3))
        for one, two in itertools.product(whole, whole):
            pairs = set(zip(one, two))
            is_map = all((a == c) == (b == d) for a, b in pairs for c, d in pairs)
            stays = all(a == b for a, b in pairs if a in kept or b in kept)
            self.assertEqual(pattern(one, kept) == pattern(two, kept), is_map and stays)

    def test_realise(self):
        self.assertEqual(realise((), [1]), ())
        self.assertEqual(realise(((N, 0), (K, 7), (N, 1), (N, 0)), [7]), (0, 7, 1, 0))
        self.assertEqual(realise(((N, 0), (N, 1), (N, 2)), [2, 0, 1]), (3, 4, 5))
        self.assertEqual(realise(((K, -5), (N, 0), (N, 1)), [3, -5, 1]), (-5, 0, 2))
        self.assertEqual(realise(entries=((N, 0), (N, 1)), kept=[1]), (0, 2))

    def test_the_least_with_that_pattern(self):
        for kept in ([], [0], [1, 3], [2, -1], [0, 1, 2]):
            for entries in all_patterns(3, kept):
                values = realise(entries, kept)
                self.assertEqual(pattern(values, kept), entries)
                pool = sorted(set(range(7)) | set(kept))
                others = [other for other in itertools.product(pool, repeat=3) if pattern(other, kept) == entries]
                self.assertEqual(values, min(others))

    def test_choices(self):
        self.assertEqual(choices((), []), [0])
        self.assertEqual(choices((), [0]), [0, 1])
        self.assertEqual(choices((), [3, -2]), [-2, 3, 0])
        self.assertEqual(choices((4, 9, 4), [9, 0]), [0, 9, 4, 1])
        self.assertEqual(choices((1, 0, 2), []), [1, 0, 2, 3])
        self.assertEqual(choices([2, 5, 0, 5], [1]), [1, 2, 5, 0, 3])
        self.assertEqual(choices([0, 1, 3], [2]), [2, 0, 1, 3, 4])
        self.assertEqual(choices([-1, -2], [1, 0]), [0, 1, -1, -2, 2])
        self.assertEqual(choices(values=[7, 7], kept=[7]), [7, 0])
        kept, values = [4, 2], [9, 1]
        choices(values, kept).append(3)
        self.assertEqual((choices(values, kept), kept, values), ([2, 4, 9, 1, 0], [4, 2], [9, 1]))

    def test_choices_go_with_a_permutation(self):
        chance = random.Random(92)
        for _ in range(300):
            kept = chance.sample(range(8), chance.randrange(3))
            values = [chance.randrange(8) for _ in range(chance.randrange(5))]
            moved = [n for n in range(8) if n not in kept]
            image = dict(zip(moved, chance.sample(moved, len(moved))))
            renamed = [image.get(n, n) for n in values]
            one, two = choices(values, kept), choices(renamed, kept)
            self.assertEqual([image.get(n, n) for n in one[:-1]], two[:-1])
            for last in (one[-1], 77, -5):
                self.assertEqual(pattern(values + [last], kept), pattern(renamed + [two[-1]], kept))
            self.assertNotIn(one[-1], kept + values)


class AllPatterns(unittest.TestCase):
    def test_small(self):
        self.assertEqual(list(all_patterns(0, [1, 2])), [()])
        self.assertEqual(list(all_patterns(1, [])), [((N, 0),)])
        self.assertEqual(list(all_patterns(2, [])), [((N, 0), (N, 0)), ((N, 0), (N, 1))])
        self.assertEqual(list(all_patterns(length=1, kept=[2, -1])), [((K, -1),), ((K, 2),), ((N, 0),)])

    def test_each_once_ascending_and_as_many_as_counted(self):
        for length in range(5):
            for kept in ([], [5], [7, -2], [3, 0, 12]):
                whole = list(all_patterns(length, kept))
                self.assertEqual(whole, sorted(set(whole)))
                count = sum(comb(length, m) * len(kept) ** (length - m) * ways(m) for m in range(length + 1))
                self.assertEqual(len(whole), count)
                pool = kept + [100, 101, 102, 103]
                self.assertEqual(set(whole), {pattern(part, kept) for part in itertools.product(pool, repeat=length)})

    def test_a_generator(self):
        made = all_patterns(4, [1, 2, 3])
        self.assertIs(iter(made), made)
        self.assertEqual(next(made), ((K, 1),) * 4)
        self.assertEqual(len(list(made)), 371)


class IsPattern(unittest.TestCase):
    def test_patterns(self):
        for length in range(5):
            for kept in ([], [1, 0], [5, -5]):
                for entries in all_patterns(length, kept):
                    self.assertIs(is_pattern(entries, length, kept), True)
                    self.assertIs(is_pattern(entries, length + 1, kept), False)
                    self.assertIs(is_pattern(entries + (entries[-1:] or ((N, 0),))[:1], length, kept), False)

    def test_nearly_patterns(self):
        kept = [1, 0, 4]
        bad = [
            None, True, 0, "", "kept", [], [(N, 0), (K, 1)], ((N, 0), [K, 1]), ([N, 0], (K, 1)), ((N, 1), (K, 1)),
            ((K, 1), (N, 1)), ((N, 0), (N, 2)), ((N, 0), (N, -1)), ((N, False), (K, 1)), ((N, 0), (K, True)),
            ((N, 0), (N, True)), ((K, 2), (K, 1)), ((N, 0),), ((N, 0), (K, 1), (K, 1)), ((N, 0), (K,)),
            ((N, 0), (K, 1, 1)), ((N, 0), ("old", 0)), ((N, 0), (K, "1")), ((N, 0), (K, None)), ((N, 0), None),
            ((N, 0), "k1"), ((0, N), (1, K)), ((N, 0), (K, (1,))), ((N, 0), ((K,), 1)), ((N, 0), ([K], 1)),
            (((N, 0), (K, 1)),), ((K, False), (K, 1)), ((None, 0), (K, 1)), (("New", 0), (K, 1)), ((N, "0"), (K, 1))]
        for thing in bad:
            self.assertIs(is_pattern(thing, 2, kept), False, thing)
        self.assertIs(is_pattern(((N, 0), (K, 1)), 2, kept), True)
        self.assertIs(is_pattern(thing=((K, 0), (K, 4)), length=2, kept=kept), True)
        self.assertIs(is_pattern((), 0, kept), True)
        self.assertIs(is_pattern([], 0, kept), False)
        self.assertIs(is_pattern((), 1, kept), False)


class MovePattern(unittest.TestCase):
    def test_each_kind(self):
        entries = ((N, 0), (K, 5), (N, 1), (N, 0))
        kept = [5, 1]
        self.assertEqual(move_pattern(entries, 0, (K, 5), kept), ((K, 5), (K, 5), (N, 0), (N, 1)))
        self.assertEqual(move_pattern(entries, 2, (K, 1), kept), ((N, 0), (K, 5), (K, 1), (N, 0)))
        self.assertEqual(move_pattern(entries, 0, (N, 1), kept), ((N, 0), (K, 5), (N, 0), (N, 1)))
        self.assertEqual(move_pattern(entries, 0, (N, 0), kept), entries)
        self.assertEqual(move_pattern(entries, 1, (N, 1), kept), ((N, 0), (N, 1), (N, 1), (N, 0)))
        self.assertEqual(move_pattern(entries, 0, (N, 2), kept), ((N, 0), (K, 5), (N, 1), (N, 2)))
        self.assertEqual(move_pattern(entries, 3, (N, 2), kept), ((N, 0), (K, 5), (N, 1), (N, 2)))
        self.assertEqual(move_pattern(entries, 2, (N, 2), kept), entries)
        self.assertEqual(move_pattern(entries=((K, 5),), at=0, entry=(N, 0), kept=kept), ((N, 0),))

    def test_against_integers(self):
        kept = [3, 0]
        for entries in all_patterns(4, kept):
            values = realise(entries, kept)
            others = list(dict.fromkeys(n for n in values if n not in kept))
            for at in range(4):
                for entry, n in [((K, 0), 0), ((K, 3), 3), ((N, len(others)), 99)] + [
                        ((N, i), part) for i, part in enumerate(others)]:
                    wanted = pattern(values[:at] + (n,) + values[at + 1:], kept)
                    self.assertEqual(move_pattern(entries, at, entry, kept), wanted)


if __name__ == "__main__":
    unittest.main()
