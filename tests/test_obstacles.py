"""Obstacles and their clients (4.8, 4.9)."""

import random
import unittest

from quietedition.assembling import assemble_all
from quietedition.errors import QuietError
from quietedition.linking import link
from quietedition.loading import load
from quietedition.obstacles import Obstacles, linking_obstacles, loading_obstacles
from tests.making import changed, edition, linked_by, refusal, some_client, some_edition, unit

ELDER = edition("cell box open 1 2", "wants w", "routine a open", "end",
                "routine b guarded at 1 default", "end", "routine b open at 2", "end", "routine c hidden", "end")


class Rows(unittest.TestCase):
    def both(self, elder, newer):
        return linking_obstacles(elder, newer).rows, loading_obstacles(elder, newer).rows

    def test_none(self):
        self.assertEqual(self.both(ELDER, ELDER), ((), ()))
        self.assertEqual(self.both(edition(), ELDER), ((("wanted", "w", 0),),) * 2)

    def test_wanted(self):
        newer = edition("wants v", "wants w")
        rows = (("wanted", "v", 0),)
        self.assertEqual(self.both(edition("wants w"), newer), (rows, rows))
        self.assertEqual(self.both(newer, edition("wants w")), ((), ()))

    def test_wanted_beside_a_routine_and_a_cell_of_that_name(self):
        elder = edition("cell f open 1", "cell g open 1", "routine f open at 1 default", "end",
                        "routine g open", "end")
        rows = (("cell", "f", 0), ("cell", "g", 0), ("wanted", "f", 0), ("wanted", "g", 0))
        self.assertEqual(self.both(elder, edition("wants g", "wants f")), (rows, rows))

    def test_names(self):
        linking = [("name", "a", 0), ("name", "b", 0), ("name", "b", 1), ("name", "b", 2)]
        loading = [("name", "a", 0), ("name", "b", 1), ("name", "b", 2)]
        cells = [("cell", "box", 0)]
        self.assertEqual(self.both(ELDER, edition()), (tuple(cells + linking), tuple(cells + loading)))
        hidden = edition("cell box open 3 4", "routine a hidden", "end", "routine b hidden", "end")
        self.assertEqual(self.both(ELDER, hidden), (tuple(linking), tuple(loading)))

    def test_tags(self):
        newer = edition("cell box open 3 4", "routine a open at 4", "end", "routine b hidden at 1 default", "end",
                        "routine b guarded at 3", "end")
        self.assertEqual(self.both(ELDER, newer), (
            (("default", "a", 0), ("default", "b", 0), ("tag", "b", 1), ("tag", "b", 2)),
            (("tag", "a", 0), ("tag", "b", 1), ("tag", "b", 2))))
        moved = edition("cell box open 3 4", "routine a open at 4 default", "end", "routine b open at 1", "end",
                        "routine b open at 2 default", "end")
        self.assertEqual(self.both(ELDER, moved), ((), ()))
        bare = edition("cell box open 3 4", "routine a open", "end", "routine b open", "end")
        rows = (("tag", "b", 1), ("tag", "b", 2))
        self.assertEqual(self.both(ELDER, bare), (rows, rows))
        without = edition("cell box open 3 4", "routine a open", "end", "routine b open at 1", "end",
                          "routine b open at 2", "end")
        self.assertEqual(self.both(ELDER, without), ((("default", "b", 0),), ()))

    def test_the_greatest_tag(self):
        rows = (("name", "a", 9),)
        self.assertEqual(self.both(edition("routine a open at 9", "end"), edition()), (rows, rows))

    def test_cells(self):
        one, two = edition("cell box open 1"), edition("cell box open 1 2")
        hidden, none = edition("cell box hidden 1"), edition("routine box open", "end")
        self.assertEqual(self.both(two, one), ((("place", "box", 1),), (("size", "box", 1),)))
        self.assertEqual(self.both(one, two), ((), (("size", "box", 2),)))
        for newer in (hidden, none):
            self.assertEqual(self.both(one, newer), ((("cell", "box", 0),),) * 2)
            self.assertEqual(self.both(two, newer), ((("cell", "box", 0),),) * 2)
        self.assertEqual(self.both(hidden, none), ((), ()))
        self.assertEqual(self.both(hidden, one), ((), ()))
        self.assertEqual(self.both(one, edition("cell box open 9")), ((), ()))


class Lists(unittest.TestCase):
    def test_attributes_and_lists(self):
        newer = edition("wants v")
        for made, stage in ((linking_obstacles(ELDER, newer), "linking"), (loading_obstacles(ELDER, newer), "loading")):
            self.assertEqual((made.elder, made.newer, made.stage), (ELDER, newer, stage))
            self.assertEqual(list(made), list(made.rows))
            self.assertEqual(list(made), sorted(made.rows))
            self.assertEqual(len(made), len(made.rows))
            self.assertIn(("wanted", "v", 0), made)
            self.assertIn(("name", "a", 0), made)
            self.assertNotIn(("name", "c", 0), made)
            self.assertNotIn(("wanted", "w", 0), made)
            self.assertEqual(Obstacles(elder=ELDER, newer=newer, stage=stage).rows, made.rows)
        self.assertEqual(len(linking_obstacles(ELDER, newer)), 6)
        self.assertEqual(len(loading_obstacles(ELDER, newer)), 5)


class HadBy(unittest.TestCase):
    def both(self, newer, *texts):
        linked = linked_by(ELDER, *texts)
        return linking_obstacles(ELDER, newer).had_by(linked), loading_obstacles(ELDER, newer).had_by(linked)

    def test_calls(self):
        rows = "unit u\nroutine w\nend\nstart\nend\n"
        self.assertEqual(self.both(edition(), rows + "call b 1"), ([("name", "b", 0)], [("name", "b", 1)]))
        self.assertEqual(self.both(edition(), rows + "call b 1 at 1"), ([("name", "b", 1)], [("name", "b", 1)]))
        self.assertEqual(self.both(edition(), rows + "call b 1 at 2"), ([("name", "b", 2)], [("name", "b", 2)]))
        self.assertEqual(self.both(edition(), rows + "call a 1"), ([("name", "a", 0)], [("name", "a", 0)]))
        self.assertEqual(self.both(edition(), rows + "end"), ([], []))
        self.assertEqual(self.both(edition(), rows + "call b 1 at 2\ncall a 1\ncall b 1"),
                         ([("name", "a", 0), ("name", "b", 0), ("name", "b", 2)],
                          [("name", "a", 0), ("name", "b", 1), ("name", "b", 2)]))

    def test_late_units(self):
        late = "unit v late\ninner i\ncall a 1\nset box.0 1"
        main = "unit u\nroutine w\nend\nstart\nend"
        self.assertEqual(self.both(edition(), main, late),
                         ([("cell", "box", 0), ("name", "a", 0)], [("cell", "box", 0)]))
        both = main + "\ncall a 2"
        self.assertEqual(self.both(edition(), both, late)[1], [("cell", "box", 0), ("name", "a", 0)])

    def test_given_names(self):
        client = "unit u\nroutine w\ncall a 1\ncall b 1 at 2\nroutine v\nend\nstart\ncall v 1"
        giver = "unit a\nroutine a\nend\nroutine b\nend"
        self.assertEqual(self.both(edition("wants v", "wants x"), client, giver), ([("wanted", "x", 0)],) * 2)
        self.assertEqual(self.both(edition("wants a"), client, giver), ([], []))
        self.assertEqual(self.both(edition("wants a"), client), ([("name", "b", 2), ("wanted", "a", 0)],) * 2)

    def test_a_note_of_another_name(self):
        elder = edition("routine a open at 2", "end", "routine b open at 2", "end")
        linked = linked_by(elder, "unit u\nstart\ncall b 1 at 2", "unit v late\ninner i\ncall a 1 at 2")
        self.assertEqual(loading_obstacles(elder, edition()).had_by(linked), [("name", "b", 2)])
        self.assertEqual(linking_obstacles(elder, edition()).had_by(linked), [("name", "a", 2), ("name", "b", 2)])

    def test_an_inner_block(self):
        client = "unit u\nroutine w\nend\ninner a\nend\nstart\ncall a 1"
        self.assertEqual(self.both(edition("wants x"), client), ([("wanted", "x", 0)],) * 2)
        self.assertEqual(self.both(edition("wants a"), client), ([("wanted", "a", 0)],) * 2)

    def test_places(self):
        newer = edition("cell box open 1", "routine a open", "end", "routine b open at 1 default", "end",
                        "routine b open at 2", "end")
        rows = "unit u\nroutine w\nend\nstart\n"
        size = ("size", "box", 1)
        self.assertEqual(self.both(newer, rows + "tell box.0"), ([], [size]))
        self.assertEqual(self.both(newer, rows + "tell box.1"), ([("place", "box", 1)], [size]))
        self.assertEqual(self.both(newer, rows + "tell box.0", "unit v late\ninner i\nset box.1 0"),
                         ([("place", "box", 1)], [size]))
        self.assertEqual(self.both(newer, rows + "end"), ([], []))
        self.assertEqual(self.both(edition(), rows + "tell box.0"), ([("cell", "box", 0)],) * 2)

    def test_lists_are_new(self):
        made = linking_obstacles(ELDER, edition())
        linked = linked_by(ELDER, unit("routine w", "end", "start", "call a 1"))
        made.had_by(linked).clear()
        self.assertEqual(made.had_by(linked=linked), [("name", "a", 0)])


class Clients(unittest.TestCase):
    def test_texts(self):
        elder = edition("cell box open 1 2", "wants w",
                        "routine a open at 3 default", "end", "routine f open", "end")
        head = "unit probe\nroutine v\nend\nroutine w\nend\nstart\nend"
        newer = edition("cell box open 1", "wants v")
        linking, loading = linking_obstacles(elder, newer), loading_obstacles(elder, newer)
        self.assertEqual(linking.client(("wanted", "v", 0)).texts(), ["unit probe\nroutine w\nend\nstart\nend"])
        self.assertEqual(linking.client(("name", "a", 0)).texts(), [head + "\ncall a 0"])
        self.assertEqual(linking.client(("name", "a", 3)).texts(), [head + "\ncall a 0 at 3"])
        self.assertEqual(linking.client(("place", "box", 1)).texts(), [head + "\ntell box.1"])
        self.assertEqual(loading.client(row=("size", "box", 1)).texts(), [head + "\ntell box.0"])
        self.assertEqual(loading.client(("name", "a", 3)).texts(), [head + "\ncall a 0 at 3"])
        missing = linking_obstacles(elder, edition("wants v", "routine a open", "end"))
        self.assertEqual(missing.client(("cell", "box", 0)).texts(), [head + "\ntell box.0"])
        self.assertEqual(missing.client(("tag", "a", 3)).texts(), [head + "\ncall a 0 at 3"])
        bare = linking_obstacles(elder, edition("wants v", "routine a open at 3", "end"))
        self.assertEqual(bare.client(("default", "a", 0)).texts(), [head + "\ncall a 0"])

    def test_a_cell_with_the_name_of_a_wanted_name(self):
        elder = edition("cell f open 1", "cell g open 1", "wants g")
        for made in (linking_obstacles(elder, edition("wants f", "wants g")),
                     loading_obstacles(elder, edition("wants f", "wants g"))):
            self.assertEqual(made.client(("cell", "f", 0)).given(), ["f", "g"])
            self.assertEqual(made.client(("cell", "g", 0)).given(), ["f", "g"])
            self.assertEqual(made.client(("wanted", "f", 0)).given(), ["g"])

    def test_two_wanted(self):
        made = loading_obstacles(edition(), edition("wants y", "wants x"))
        self.assertEqual([made.client(row).texts() for row in made],
                         [["unit probe\nroutine y\nend\nstart\nend"], ["unit probe\nroutine x\nend\nstart\nend"]])


class Refused(unittest.TestCase):
    def test_a_client_is_refused_exactly_if_it_has_an_obstacle(self):
        chance = random.Random(43)
        causes = set()
        for _ in range(1500):
            elder = some_edition(chance)
            newer = changed(chance, elder)
            linking, loading = linking_obstacles(elder, newer), loading_obstacles(elder, newer)
            for made in (linking, loading):
                for row in made:
                    objects = assemble_all(made.client(row), elder)
                    linked = link(objects, elder)
                    self.assertEqual(made.had_by(linked), [row])
                    error = refusal(link, objects, newer) if made is linking else refusal(load, linked, newer)
                    self.assertEqual((error[1], error[3]), row[:2])
                    causes.add((made.stage, row[0]))
            client = some_client(chance, elder, newer)
            try:
                objects = assemble_all(client, elder)
                linked = link(objects, elder)
            except QuietError:
                continue
            for made, error in ((linking, refusal(link, objects, newer)), (loading, refusal(load, linked, newer))):
                had = made.had_by(linked)
                self.assertEqual(error is None, had == [])
                if error is not None:
                    self.assertIn((error[1], error[3]), [row[:2] for row in had])
            if refusal(link, objects, newer) is None:
                self.assertIsNone(refusal(load, link(objects, newer), newer))
        self.assertEqual(causes, {("linking", cause) for cause in ("wanted", "name", "tag", "default", "cell", "place")}
                         | {("loading", cause) for cause in ("wanted", "name", "tag", "cell", "size")})


if __name__ == "__main__":
    unittest.main()
