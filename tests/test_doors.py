"""Kept numbers, given sets, doors, bounds, and what is noticed at once (7.2 to 7.6)."""

import unittest

from quietedition.doors import Door, at_once, check_bounds, doors, given_sets, kept_numbers, unlike_numbers
from quietedition.errors import BadMoment, TooMany
from quietedition.manners import Manners
from quietedition.world import Moment
from tests.making import edition, refusal

NONE = Manners.of()
ALL = Manners(Manners.ALL)
NO_MOMENTS = (None, 0, True, "", "load", "Loaded", ["loaded"], ("linked",), ("assembled", "linked", "loaded"), 1)


class Moments(unittest.TestCase):
    def test_bad_moments_come_first(self):
        many = edition("cell a hidden 0 0", "routine f open", "tell 1", "tell 2", "tell 3", "tell 4")
        for thing in NO_MOMENTS:
            for action, arguments in ((doors, (many, many, thing, ALL, ())), (kept_numbers, (many, many, thing)),
                                      (at_once, (many, edition("wants w"), thing, ALL)),
                                      (check_bounds, (many, many, thing, ALL))):
                with self.assertRaises(BadMoment) as caught:
                    action(*arguments)
                self.assertEqual(caught.exception.moment, thing)
                self.assertIs(type(caught.exception.moment), type(thing))


class Numbers(unittest.TestCase):
    def test_unlike(self):
        elder = edition("number b 1", "number a 2", "number c 3")
        self.assertEqual(unlike_numbers(elder, edition("number a 3", "number c 3", "number b 2")), ["a", "b"])
        self.assertEqual(unlike_numbers(elder, edition("number a 2", "number d 9")), [])
        self.assertEqual(unlike_numbers(elder=edition(), newer=elder), [])
        self.assertEqual(unlike_numbers(elder, edition("number b 0", "number x 2")), ["b"])

    def test_kept(self):
        elder = edition("number b 8", "number a 7", "cell box open 5", "wants w", "routine f open", "same it 4 else 2",
                        "set box.0 #b", "call w -1", "end")
        newer = edition("number b 9", "number a 6", "number c 0", "routine f open at 3", "same it 4 else 1", "end")
        self.assertEqual(kept_numbers(elder, newer, "linked"), [-1, 4, 8])
        self.assertEqual(kept_numbers(elder, newer, "loaded"), [-1, 4, 8])
        self.assertEqual(kept_numbers(elder, newer, "assembled"), [-1, 4, 6, 7, 8, 9])
        self.assertEqual(kept_numbers(newer, elder, moment="loaded"), [-1, 4, 8])
        self.assertEqual(kept_numbers(elder, elder, "assembled"), [-1, 4, 8])
        self.assertEqual(kept_numbers(newer, newer, "assembled"), [4])
        self.assertEqual(kept_numbers(edition("number a 1"), edition("number b 2"), "assembled"), [])


class GivenSets(unittest.TestCase):
    ELDER = edition("wants w", "routine a open", "end", "routine c guarded", "call a 1", "routine d hidden", "call c 1",
                    "first one", "call d 1", "call w 1")

    def test_chosen(self):
        newer = edition("wants v", "routine b open at 1", "end", "routine d open", "call b 1 at 1", "first x",
                        "call d 1")
        cases = [
            ((), [("w",)]),
            (("over",), [("a", "w"), ("w",)]),
            (("free",), sorted(tuple(sorted(part + ("w",))) for part in (
                (), ("b",), ("d",), ("v",), ("b", "d"), ("b", "v"), ("d", "v"), ("b", "d", "v")))),
        ]
        for names, wanted in cases:
            self.assertEqual(given_sets(self.ELDER, newer, Manners(names)), wanted)
        self.assertEqual(len(given_sets(self.ELDER, newer, Manners.of("free", "over"))), 16)
        self.assertEqual(len(given_sets(self.ELDER, newer, ALL - Manners.of("free"))), 2)

    def test_what_is_no_entry(self):
        newer = edition("routine b open", "end", "routine k guarded", "end", "first x", "call k 1")
        self.assertEqual(given_sets(elder=self.ELDER, newer=newer, manners=Manners.of("free")), [("w",)])
        self.assertEqual(given_sets(edition("routine b open", "end"), newer, ALL), [()])

    def test_an_entry_of_the_newer_edition_alone(self):
        """Over counts where the elder edition offers the name, whichever edition calls it."""
        elder = edition("routine a guarded", "end")
        newer = edition("routine a open", "end", "routine b open", "call a 1")
        self.assertEqual(given_sets(elder, newer, Manners.of("over")), [(), ("a",)])
        self.assertEqual(given_sets(elder, newer, Manners.of("free")), [()])
        self.assertEqual(given_sets(elder, edition("wants a"), Manners.of("over")), [(), ("a",)])
        self.assertEqual(given_sets(edition("routine a hidden", "end"), newer, Manners.of("free")), [(), ("a",)])
        self.assertEqual(given_sets(edition("wants a"), newer, ALL), [("a",)])

    def test_lists_are_new(self):
        given_sets(self.ELDER, self.ELDER, NONE).clear()
        self.assertEqual(given_sets(self.ELDER, self.ELDER, NONE), [("w",)])


class Doors(unittest.TestCase):
    ELDER = edition("wants w", "routine b open at 1", "end", "routine b guarded at 4 default", "end",
                    "routine a open", "end", "routine c hidden at 9 default", "end")
    NEWER = edition("routine b open at 1 default", "end", "routine b open at 4", "end", "routine a open at 2 default",
                    "end", "routine c open at 9", "end")

    def told(self, moment, manners, given, newer=None):
        found = doors(self.ELDER, newer or self.NEWER, moment, manners, given)
        return [(door.name, door.tag, door.first, door.second) for door in found]

    def test_tags(self):
        tags = Manners.of("tags")
        for moment in ("assembled", "linked"):
            self.assertEqual(self.told(moment, NONE, ["w"]), [("a", 0, 0, 2), ("b", 0, 4, 1)])
            self.assertEqual(self.told(moment, tags, ["w"]), [
                ("a", 0, 0, 2), ("b", 0, 4, 1), ("b", 1, 1, 1), ("b", 4, 4, 4)])
        self.assertEqual(self.told("loaded", NONE, ["w"]), [("a", 0, 0, 2), ("b", 0, 4, 4)])
        self.assertEqual(self.told("loaded", tags, ["w"]), [
            ("a", 0, 0, 2), ("b", 0, 4, 4), ("b", 1, 1, 1), ("b", 4, 4, 4)])

    def test_given(self):
        self.assertEqual(self.told("loaded", ALL, ("a", "w", "z")), [("b", 0, 4, 4), ("b", 1, 1, 1), ("b", 4, 4, 4)])
        self.assertEqual(self.told("loaded", ALL, ["a", "b"]), [])

    def test_refused(self):
        hidden = edition("routine b hidden at 4 default", "end", "routine b open at 1", "end")
        self.assertEqual(self.told("linked", ALL, [], hidden), [
            ("a", 0, 0, None), ("b", 0, 4, None), ("b", 1, 1, 1), ("b", 4, 4, None)])
        self.assertEqual(self.told("loaded", NONE, [], edition("routine b open at 4", "end")), [
            ("a", 0, 0, None), ("b", 0, 4, 4)])
        self.assertEqual(self.told("linked", NONE, [], edition("routine b open at 4", "end")), [
            ("a", 0, 0, None), ("b", 0, 4, None)])
        self.assertEqual(self.told("linked", NONE, ["b"], edition("wants a")), [("a", 0, 0, None)])

    def test_the_greatest_tag(self):
        made = edition("routine z open at 9", "end")
        self.assertEqual(doors(made, made, "linked", Manners.of("tags"), ()), [Door("z", 9, 9, 9)])
        self.assertEqual(doors(made, made, "linked", ALL - Manners.of("tags"), ()), [])

    def test_equal(self):
        door = Door("a", 1, 2, None)
        self.assertEqual(door, Door(name="a", tag=1, first=2, second=None))
        for other in (Door("b", 1, 2, None), Door("a", 0, 2, None), Door("a", 1, 3, None), Door("a", 1, 2, 0),
                      ("a", 1, 2, None), None):
            self.assertNotEqual(door, other)


class Bounds(unittest.TestCase):
    def check(self, elder, newer, moment, manners):
        error = refusal(check_bounds, elder, newer, moment, manners)
        return None if error is None else error[1]

    def numbers(self, *numbers):
        return edition("routine f open", *[f"tell {n}" for n in numbers])

    def test_numbers(self):
        for manners in (NONE, ALL):
            self.assertIsNone(self.check(self.numbers(1, 2, 3), self.numbers(3), "loaded", manners))
            self.assertEqual(self.check(self.numbers(1, 2), self.numbers(3, 4), "loaded", manners), "numbers")
        elder, newer = edition("number a 1", "number b 2"), edition("number a 2", "number b 3")
        self.assertIsNone(self.check(elder, newer, "assembled", ALL))
        further = edition("number a 2", "number b 3", "routine f open", "tell 4")
        self.assertEqual(self.check(elder, further, "assembled", ALL), "numbers")
        self.assertIsNone(self.check(elder, further, "linked", ALL))

    def test_names(self):
        lines = ["routine a open", "end", "routine b open", "end", "routine c open", "end", "first f"]
        two = edition(*lines, "call a 1", "call b 1")
        three = edition(*lines, "call a 1", "call b 1", "call c 1")
        wants = edition("wants x", "wants y")
        self.assertIsNone(self.check(two, two, "loaded", ALL))
        self.assertEqual(self.check(three, three, "loaded", Manners.of("over")), "names")
        self.assertIsNone(self.check(three, three, "loaded", ALL - Manners.of("over")))
        self.assertEqual(self.check(edition(*lines, "end"), three, "linked", ALL), "names")
        self.assertIsNone(self.check(edition(), wants, "linked", ALL))
        self.assertEqual(self.check(two, wants, "linked", ALL), "names")
        self.assertIsNone(self.check(two, wants, "linked", Manners.of("over")))
        self.assertIsNone(self.check(two, wants, "linked", Manners.of("free")))

    def test_places(self):
        one, two = edition("cell a open 0"), edition("cell a hidden 0 0")
        for manners, told in ((Manners.of("within"), "places"), (ALL, "places"), (ALL - Manners.of("within"), None)):
            self.assertIsNone(self.check(one, one, "loaded", manners))
            self.assertIsNone(self.check(edition(), two, "loaded", manners))
            self.assertEqual(self.check(one, two, "loaded", manners), told)
            self.assertEqual(self.check(two, one, "loaded", manners), told)

    def test_their_order(self):
        lines = ["cell p open 0 0", "routine a open", "end", "routine b open", "end", "routine c open", "end", "first f"]
        names = edition(*lines, "call a 1", "call b 1", "call c 1")
        numbers = edition(*lines, "call a 1", "call b 2", "call c 3", "tell 4")
        self.assertEqual(self.check(names, numbers, "loaded", ALL), "numbers")
        self.assertEqual(self.check(names, names, "loaded", ALL), "names")
        self.assertEqual(self.check(names, names, "loaded", ALL - Manners.of("over")), "places")
        self.assertIsNone(self.check(names, names, "loaded", NONE))
        self.assertIsNone(check_bounds(elder=names, newer=names, moment="loaded", manners=NONE))


class AtOnce(unittest.TestCase):
    def told(self, elder, newer, names=()):
        return [at_once(elder, newer, moment, Manners(names)) for moment in Moment.ALL]

    def test_wanted(self):
        self.assertEqual(self.told(edition(), edition("wants y", "wants x")), [("wanted", "x")] * 3)
        self.assertEqual(self.told(edition("wants x"), edition("wants y", "wants x")), [("wanted", "y")] * 3)
        self.assertEqual(self.told(edition("wants x"), edition()), [None] * 3)

    def test_doors(self):
        elder = edition("routine b open at 3 default", "end", "routine b open at 5", "end", "routine c open", "end")
        self.assertEqual(self.told(elder, edition()), [("door", "b", 0)] * 3)
        self.assertEqual(self.told(elder, edition("routine b open", "end")), [
            ("door", "c", 0), ("door", "c", 0), ("door", "b", 0)])
        only = edition("routine b open at 3 default", "end", "routine c open", "end")
        self.assertEqual(self.told(elder, only), [None] * 3)
        self.assertEqual(self.told(elder, only, ["tags"]), [("door", "b", 5)] * 3)
        self.assertEqual(self.told(edition("routine a hidden", "end"), edition()), [None] * 3)

    def test_a_door_whose_name_may_be_given(self):
        """The doors are those beside a client that gives the wanted names alone."""
        elder = edition("routine a open", "end", "first f", "call a 1")
        self.assertEqual(self.told(elder, edition(), ["over"]), [("door", "a", 0)] * 3)
        self.assertEqual(self.told(edition("wants a"), edition(), ["over"]), [None] * 3)

    def test_numbers(self):
        elder, newer = edition("number z 1", "number a 2", "number c 1"), edition("number c 3")
        self.assertEqual(self.told(elder, newer), [None] * 3)
        first = [("number", "a"), None, None]
        self.assertEqual(self.told(elder, newer, ["shows"]), first)
        self.assertEqual(self.told(elder, newer, ["straight"]), [None] * 3)
        self.assertEqual(self.told(elder, edition("number a 2", "number c 1", "number z 1"), ["shows"]), [None] * 3)
        open_cell, hidden = "cell p open 0", "cell p hidden 0"
        self.assertEqual(self.told(edition("number a 2", open_cell), edition(open_cell), ["straight"]), first)
        self.assertEqual(self.told(edition("number a 2", hidden), edition(hidden), ["straight"]), [None] * 3)
        self.assertEqual(self.told(edition("number a 2", open_cell), edition(open_cell)), [None] * 3)
        routine = ("routine f open", "end")
        self.assertEqual(self.told(edition("number a 2", *routine), edition(*routine)), first)
        tagged = ("routine f open at 2", "end")
        self.assertEqual(self.told(edition("number a 2", *tagged), edition(*tagged)), [None] * 3)
        self.assertEqual(self.told(edition("number a 2", *tagged), edition(*tagged), ["tags"]), first)

    def test_cells(self):
        two, one = edition("cell p open 0 0"), edition("cell p open 0")
        hidden, none = edition("cell p hidden 0 0"), edition("cell q open 0")
        for newer in (hidden, none, one):
            self.assertEqual(self.told(two, newer, ["straight"]), [("cell", "p", 1)] * 3)
            self.assertEqual(self.told(two, newer, ALL - Manners.of("straight")), [None] * 3)
        self.assertEqual(self.told(one, hidden, ["straight"]), [("cell", "p", 0)] * 3)
        self.assertEqual(self.told(one, two, ["straight"]), [None, None, ("cell", "p", 0)])
        self.assertEqual(self.told(hidden, none, ["straight"]), [None] * 3)
        both = edition("cell q open 0", "cell b open 0")
        self.assertEqual(self.told(both, edition(), ["straight"]), [("cell", "b", 0)] * 3)

    def test_two_at_once(self):
        elder = edition("number a 2", "cell p open 0", "routine f open", "end")
        everything = Manners.ALL
        self.assertEqual(self.told(elder, edition("wants v"), everything), [("wanted", "v")] * 3)
        self.assertEqual(self.told(elder, edition(), everything), [("door", "f", 0)] * 3)
        self.assertEqual(self.told(elder, edition("routine f open", "end"), everything), [
            ("number", "a"), ("cell", "p", 0), ("cell", "p", 0)])
        self.assertEqual(self.told(elder, edition("number a 3", "routine f open", "end"), everything),
                         [("cell", "p", 0)] * 3)
        self.assertIsNone(at_once(elder=elder, newer=elder, moment="loaded", manners=ALL))


if __name__ == "__main__":
    unittest.main()
