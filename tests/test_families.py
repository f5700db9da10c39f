"""Families of sets of manners (9.1, 9.2)."""

import itertools
import random
import unittest

from quietedition.families import barring, complements, family, greatest, is_antichain, least, meets, parts
from quietedition.manners import Manners

ALL = Manners(Manners.ALL)


def made(*texts):
    """The sets with these texts; an empty text stands for the empty set."""
    return [Manners(text.split()) for text in texts]


def texts(sets):
    return ["" if len(one) == 0 else str(one) for one in sets]


def some_sets(chance, count, names=Manners.ALL):
    return [Manners([name for name in names if chance.randrange(2)]) for _ in range(count)]


def by_words(sets):
    """A family as the words say, of frozensets of names."""
    once = {frozenset(one) for one in sets}
    return sorted(once, key=lambda names: (len(names), " ".join(sorted(names)) if names else "none"))


class Family(unittest.TestCase):
    def test_order(self):
        sets = made("within", "asks tags", "", "free over", "asks", "asks free", "asks straight within", "free")
        wanted = ["", "asks", "free", "within", "asks free", "asks tags", "free over", "asks straight within"]
        self.assertEqual(texts(family(sets)), wanted)
        self.assertEqual(texts(family(sets=tuple(reversed(sets + sets)))), wanted)
        self.assertEqual(family([]), [])
        self.assertEqual(family(()), [])
        self.assertIsInstance(family(sets)[0], Manners)

    def test_all_parts(self):
        found = parts(among=ALL)
        self.assertEqual(len(found), 128)
        self.assertEqual((found[0], found[-1]), (Manners.of(), ALL))
        self.assertEqual(family(found[::-1]), found)
        self.assertEqual(texts(found[:9]), [""] + list(Manners.ALL) + ["asks free"])
        self.assertEqual(texts(parts(Manners.of("tags", "free"))), ["", "free", "tags", "free tags"])
        self.assertEqual(parts(Manners.of()), [Manners.of()])

    def test_lists_are_new(self):
        sets = made("tags", "asks")
        family(sets).clear()
        least(sets).clear()
        self.assertEqual(texts(sets), ["tags", "asks"])
        self.assertEqual(texts(family(sets)), ["asks", "tags"])

    def test_texts_of_sets_are_in_order(self):
        found = parts(ALL)
        for one, two in zip(found, found[1:]):
            self.assertTrue(len(one) < len(two) or (len(one) == len(two) and str(one) < str(two)))


class LeastAndGreatest(unittest.TestCase):
    SETS = made("asks tags", "tags", "asks", "free over", "over", "asks tags", "within", "free over within")

    def test_least(self):
        self.assertEqual(texts(least(sets=self.SETS)), ["asks", "over", "tags", "within"])
        self.assertEqual(texts(least(made("asks tags", "asks tags", "tags over"))), ["asks tags", "over tags"])
        self.assertEqual(texts(least(made("asks", ""))), [""])
        self.assertEqual(least([]), [])

    def test_greatest(self):
        self.assertEqual(texts(greatest(sets=tuple(self.SETS))), ["asks tags", "free over within"])
        self.assertEqual(texts(greatest(made("", "asks", ""))), ["asks"])
        self.assertEqual(texts(greatest(made(""))), [""])
        self.assertEqual(greatest(()), [])

    def test_meets(self):
        one, two, none = Manners.of("asks", "tags"), Manners.of("tags"), Manners.of()
        self.assertIs(meets(one, two), True)
        self.assertIs(meets(first=two, second=Manners.of("asks")), False)
        self.assertIs(meets(one, none), False)
        self.assertIs(meets(none, none), False)
        self.assertIs(meets(ALL, one), True)

    def test_antichains(self):
        for sets, wanted in (([], True), (made(""), True), (made("asks"), True), (made("asks", "tags"), True),
                             (made("asks", "asks"), False), (made("", ""), False), (made("", "asks"), False),
                             (made("asks tags", "tags"), False), (made("tags", "over", "asks tags"), False),
                             (made("asks tags", "asks over", "over tags"), True)):
            self.assertIs(is_antichain(sets), wanted)
            self.assertIs(is_antichain(sets=tuple(reversed(sets))), wanted)


class Barring(unittest.TestCase):
    def test_barring(self):
        self.assertEqual(texts(barring(made("asks tags", "tags over"), ALL)), ["tags", "asks over"])
        self.assertEqual(texts(barring(sets=tuple(made("asks tags", "tags over")), among=Manners.of("asks", "over"))),
                         ["asks over"])
        self.assertEqual(texts(barring([], ALL)), [""])
        self.assertEqual(texts(barring([], Manners.of())), [""])

    def test_a_set_that_has_no_manner_within(self):
        self.assertEqual(barring(made("asks", "tags"), Manners.of("asks")), [])
        self.assertEqual(barring(made("asks", ""), ALL), [])
        self.assertEqual(barring(made("asks"), Manners.of()), [])

    def test_twice_behind_itself(self):
        """What bars the barring sets are the least sets themselves, as far as they are parts of the whole."""
        chance = random.Random(171)
        for _ in range(300):
            among = some_sets(chance, 1)[0]
            sets = [one & among for one in some_sets(chance, chance.randrange(5))]
            if any(len(one) == 0 for one in sets):
                self.assertEqual(barring(sets, among), [])
                self.assertEqual(texts(barring([], among)), [""])
                continue
            self.assertEqual(barring(barring(sets, among), among), least(sets))

    def test_complements(self):
        among = Manners.of("asks", "free", "tags")
        self.assertEqual(texts(complements(made("asks", "tags over", "asks within", ""), among)),
                         ["asks free", "free tags", "asks free tags"])
        self.assertEqual(texts(complements(sets=made("asks free tags"), among=among)), [""])
        self.assertEqual(complements([], among), [])
        self.assertEqual(texts(complements(made("over", ""), among)), ["asks free tags"])


class ByChance(unittest.TestCase):
    def test_as_the_words_say(self):
        chance = random.Random(172)
        for _ in range(300):
            sets = some_sets(chance, chance.randrange(7))
            sets += [chance.choice(sets) for _ in sets[:1]]
            chance.shuffle(sets)
            names = [frozenset(one) for one in sets]
            among = some_sets(chance, 1)[0]

            def same(found, wanted):
                self.assertEqual([frozenset(one) for one in found], by_words(wanted))
            given = sets if chance.randrange(2) else tuple(sets)
            same(family(given), names)
            same(least(given), [one for one in names if not any(other < one for other in names)])
            same(greatest(given), [one for one in names if not any(other > one for other in names)])
            same(complements(given, among), [frozenset(among) - one for one in names])
            subsets = [frozenset(part) for count in range(8) for part in itertools.combinations(tuple(among), count)]
            same(parts(among), subsets)
            meeting = [part for part in subsets if all(part & one for one in names)]
            same(barring(given, among), [part for part in meeting if not any(other < part for other in meeting)])
            self.assertEqual(is_antichain(given), not any(one <= other for one, other in itertools.permutations(names, 2)))


if __name__ == "__main__":
    unittest.main()
