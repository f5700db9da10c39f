"""Worlds and moments (5.8)."""

import unittest

from quietedition.errors import BadMoment
from quietedition.world import Moment, World, worlds
from tests.making import edition

ELDER, NEWER, THIRD = edition("wants e"), edition("wants n"), edition("wants t")


class Worlds(unittest.TestCase):
    def told(self, world):
        return [made.wants[0] for made in (world.assembled, world.linked, world.loaded)]

    def test_moments(self):
        self.assertEqual((Moment.ASSEMBLED, Moment.LINKED, Moment.LOADED), ("assembled", "linked", "loaded"))
        self.assertEqual(Moment.ALL, ("assembled", "linked", "loaded"))

    def test_world(self):
        self.assertEqual(self.told(World(ELDER, NEWER, THIRD)), ["e", "n", "t"])
        self.assertEqual(self.told(World(loaded=ELDER, assembled=NEWER, linked=THIRD)), ["n", "t", "e"])
        self.assertEqual(self.told(World.of(NEWER)), ["n", "n", "n"])
        self.assertEqual(World.of(edition=ELDER), World(ELDER, ELDER, ELDER))

    def test_worlds(self):
        for moment, second in (("assembled", ["n", "n", "n"]), ("linked", ["e", "n", "n"]),
                               ("loaded", ["e", "e", "n"])):
            pair = worlds(ELDER, NEWER, moment)
            self.assertIsInstance(pair, tuple)
            self.assertEqual([self.told(world) for world in pair], [["e", "e", "e"], second])
        self.assertEqual(worlds(elder=ELDER, newer=ELDER, moment="loaded"), (World.of(ELDER),) * 2)

    def test_no_moment(self):
        for thing in (None, 0, 1, True, False, "", "Loaded", "loaded ", "load", "linkd", "all", ["loaded"],
                      ("assembled", "linked", "loaded"), [], ("loaded",), -1, [["linked", None]]):
            with self.assertRaises(BadMoment) as caught:
                worlds(ELDER, NEWER, thing)
            self.assertEqual(caught.exception.moment, thing)
            self.assertEqual(type(caught.exception.moment), type(thing))

    def test_equal(self):
        same = edition("wants e")
        self.assertEqual(World(ELDER, NEWER, THIRD), World(same, NEWER, THIRD))
        whole = World(ELDER, ELDER, ELDER)
        for other in (World(NEWER, ELDER, ELDER), World(ELDER, NEWER, ELDER), World(ELDER, ELDER, NEWER),
                      (ELDER, ELDER, ELDER), ELDER, None):
            self.assertNotEqual(whole, other)


if __name__ == "__main__":
    unittest.main()
