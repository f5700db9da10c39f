"""Outcomes (5.9, 5.10), and what they do not depend on."""

import random
import re
import unittest

from quietedition.assembling import assemble_all, written_out
from quietedition.editions import Edition
from quietedition.errors import NotAssembled, NotLinked, NotLoaded, QuietError
from quietedition.linking import link
from quietedition.loading import load
from quietedition.machine import Machine
from quietedition.runs import image_of, is_served, outcome, unlike
from quietedition.units import Block, Client, Unit
from quietedition.world import World
from tests.making import changed, edition, image_by, refusal, some_client, some_edition, unit
from tests.reference import Reference


def worlds_by_chance(chance, count, most_units=2):
    """Clients, and worlds of two or three editions."""
    for _ in range(count):
        elder = some_edition(chance, most_rows=4)
        newer = changed(chance, elder)
        editions = (elder, newer, changed(chance, elder, "m"))
        client = some_client(chance, elder, newer, most_units)
        yield client, World(elder, elder, elder)
        yield client, World(elder, elder, newer)
        yield client, World(*[chance.choice(editions) for _ in range(3)])


class Outcomes(unittest.TestCase):
    LIB = edition("number most 3", "cell box open 7", "wants w", "first go", "tell 1", "call w 2",
                  "routine f open", "tell it")
    CLIENT = Client.of(unit("routine w", "tell it", "start", "tell #most", "call f box.0", "end"))

    def test_plain(self):
        rows = [("edition", 1), ("client", 2), ("client", 3), ("edition", 7), ("end", "plain")]
        self.assertEqual(outcome(self.CLIENT, World.of(self.LIB)), rows)
        self.assertEqual(outcome(client=self.CLIENT, world=World.of(self.LIB), limit=5), rows)
        with self.assertRaises(TypeError):
            outcome(self.CLIENT, World.of(self.LIB), 5)

    def test_long(self):
        rows = outcome(self.CLIENT, World.of(self.LIB))
        for limit, count in ((0, 1), (1, 2), (2, 3), (3, 4)):
            told = outcome(self.CLIENT, World.of(self.LIB), limit=limit)
            self.assertEqual(told, rows[:count] + [("end", "long")])
        self.assertEqual(outcome(self.CLIENT, World.of(self.LIB), limit=4), rows)
        ring = Client.of(unit("inner i", "tell it", "call i it", "start", "call i 4"))
        self.assertEqual(outcome(ring, World.of(edition())), [("client", 4)] * 1500 + [("end", "long")])
        self.assertEqual(outcome(ring, World.of(edition()), limit=3), [("client", 4), ("end", "long")])

    def test_lost(self):
        client = Client.of("unit u late\nstart\ntell 1\ncall f 1\ntell 2")
        world = World(self.LIB, edition("routine f open", "end"), edition())
        self.assertEqual(outcome(client, world), [("client", 1), ("lost", "f")])

    def test_refused(self):
        lib, none = self.LIB, edition()
        less = Edition.read(self.LIB.text().replace("routine f open", "routine f hidden"))
        cases = [
            ((none, lib, lib), ("assembling", "number", "most"), (NotAssembled, "u", "most")),
            ((none, none, none), ("assembling", "number", "most"), (NotAssembled, "u", "most")),
            ((lib, none, none), ("linking", "name", "f"), (NotLinked, "name", "u", "f")),
            ((lib, edition("routine f open", "end"), none), ("linking", "cell", "box"), (NotLinked, "cell", "u", "box")),
            ((lib, less, lib), ("linking", "name", "f"), (NotLinked, "name", "u", "f")),
            ((lib, lib, none), ("loading", "name", "f"), (NotLoaded, "name", "u", "f")),
            ((lib, lib, edition("routine f open at 2", "end")), ("loading", "tag", "f"), (NotLoaded, "tag", "u", "f")),
            ((lib, lib, edition("routine f open", "end")), ("loading", "cell", "box"), (NotLoaded, "cell", "u", "box")),
        ]
        for editions, (stage, cause, name), error in cases:
            world = World(*editions)
            self.assertEqual(outcome(self.CLIENT, world), [("refused", stage, cause, name)])
            self.assertEqual(outcome(self.CLIENT, world, limit=0), [("refused", stage, cause, name)])
            self.assertEqual(refusal(image_of, self.CLIENT, world), (error[0].__name__,) + error[1:])
        no_start = Client.of(unit("routine w", "end"))
        self.assertEqual(outcome(no_start, World.of(none)), [("refused", "linking", "start", "")])
        wanted = edition("wants w", "wants x")
        self.assertEqual(outcome(self.CLIENT, World(lib, lib, wanted)), [("refused", "loading", "wanted", "x")])

    def test_image(self):
        image = image_of(self.CLIENT, World.of(self.LIB))
        self.assertEqual(image, image_by(self.LIB, self.CLIENT.texts()[0]))

    def test_lists_are_new(self):
        outcome(self.CLIENT, World.of(self.LIB)).clear()
        self.assertEqual(len(outcome(self.CLIENT, World.of(self.LIB))), 5)


class Unlike(unittest.TestCase):
    def test_unlike(self):
        a, b, c = ("edition", 1), ("client", 1), ("end", "plain")
        for first, second, at in (([], [], None), ([a], [], 0), ([], [a, b], 0), ([a, c], [a, c], None),
                                  ([a, c], [a, b, c], 1), ([a, b], [a, b, c], 2), ([a, b, c], [a, b], 2),
                                  ([b, a], [a, b], 0), ([a, ("client", 2)], [a, b], 1), ([a], [b, b], 0)):
            self.assertEqual(unlike(first, second), at)
            self.assertEqual(unlike(first=second, second=first), at)


class Served(unittest.TestCase):
    def test_each_stage(self):
        lib = Outcomes.LIB
        self.assertIs(is_served(Outcomes.CLIENT, lib), True)
        self.assertIs(is_served(client=Outcomes.CLIENT, edition=edition()), False)
        client = Client.of(unit("start", "call f 1", "tell box.0"))
        self.assertIs(is_served(client, edition("routine f open", "end")), False)
        self.assertIs(is_served(client, lib), False)
        self.assertIs(is_served(Client.of(unit("routine w", "end", "start", "call f 1", "tell box.0")), lib), True)

    def test_beside_the_outcome(self):
        chance = random.Random(81)
        seen = {True: 0, False: 0}
        for client, world in worlds_by_chance(chance, 400):
            for made in (world.assembled, world.loaded):
                rows = outcome(client, World.of(made), limit=40)
                self.assertEqual(is_served(client, made), rows[0][0] != "refused")
                self.assertNotIn("lost", [row[0] for row in rows])
                seen[is_served(client, made)] += 1
        self.assertGreater(min(seen.values()), 100)


def renamed_text(text, names):
    """The text with its names renamed; numbers, tags and the words of the language stay."""
    return re.sub(r"[a-z][a-z0-9]*", lambda found: names.get(found.group(), found.group()), text)


class WhatItDoesNotDependOn(unittest.TestCase):
    def test_as_the_words_say(self):
        chance = random.Random(82)
        stages = {}
        for client, world in worlds_by_chance(chance, 700):
            rows = outcome(client, world, limit=60)
            stages[rows[-1][0]] = stages.get(rows[-1][0], 0) + 1
            if rows[0][0] != "refused":
                told = Reference(client, world, 60).events()
                wanted = [event[1:] for event in told if event[0] == "tell"]
                how = told[-1][1].split(" ")
                self.assertEqual(rows, wanted + [("lost", how[1]) if how[0] == "lost" else ("end", how[0])])
        self.assertEqual(sorted(stages), ["end", "lost", "refused"])

    def test_lower_limits(self):
        chance = random.Random(83)
        for client, world in worlds_by_chance(chance, 250):
            rows = outcome(client, world, limit=60)
            for limit in (0, 1, 2, 5, 20):
                less = outcome(client, world, limit=limit)
                if less != rows:
                    self.assertEqual(less[-1], ("end", "long"))
                    self.assertEqual(less[:-1], rows[:len(less) - 1])

    def test_units_in_any_order(self):
        chance = random.Random(84)
        for client, world in worlds_by_chance(chance, 300):
            units = list(client.units)
            chance.shuffle(units)
            rows = outcome(client, world, limit=60)
            if rows[0][:2] != ("refused", "assembling"):
                self.assertEqual(outcome(Client(units), world, limit=60), rows)

    def test_one_unit_with_all_blocks(self):
        """Own cells and inner blocks take the name of their unit, so that they never meet."""
        chance = random.Random(85)
        count = 0
        for client, world in worlds_by_chance(chance, 400):
            if any(part.is_late for part in client.units) or len(client.units) < 2:
                continue
            texts = []
            for part in client.units:
                text = re.sub(r"\bown\b", part.name + "own", part.text())
                texts.append(Unit.read(re.sub(r"\bin\b", part.name + "in", text)))
            cells = {cell: n for part in texts for cell, n in part.cells.items()}
            whole = Unit("whole", False, cells, [block for part in texts for block in part.blocks])
            names = [block.name for block in whole.blocks]
            rows = outcome(client, world, limit=60)
            if len(set(names)) == len(names) and rows[0][0] != "refused":
                self.assertEqual(outcome(Client([whole]), world, limit=60), rows)
                count += 1
        self.assertGreater(count, 50)

    def test_units_written_out(self):
        chance = random.Random(86)
        count = 0
        for client, world in worlds_by_chance(chance, 400):
            try:
                units = [written_out(part, world.assembled) for part in client.units]
            except NotAssembled:
                continue
            count += units != list(client.units)
            self.assertEqual(outcome(Client(units), world, limit=60), outcome(client, world, limit=60))
            other = World(edition(), world.linked, world.loaded)
            self.assertEqual(outcome(Client(units), other, limit=60), outcome(client, world, limit=60))
        self.assertGreater(count, 50)

    def test_what_is_frozen_at_the_earlier_moments(self):
        """Of assembling only numbers count, of linking only notes and sizes; the rest of both editions may go."""
        chance = random.Random(87)
        for client, world in worlds_by_chance(chance, 400):
            numbers = Edition("m", world.assembled.numbers, {}, [], [])
            rows = outcome(client, world, limit=60)
            self.assertEqual(outcome(client, World(numbers, world.linked, world.loaded), limit=60), rows)
            bare = [type(block)(*[getattr(block, name) for name in vars(block) if name != "rows"], [])
                    for block in world.linked.members]
            cells = {cell: (access, [9] * len(integers)) for cell, (access, integers) in world.linked.cells.items()}
            noted = Edition("m", {}, cells, world.linked.wants, bare)
            self.assertEqual(outcome(client, World(world.assembled, noted, world.loaded), limit=60), rows)

    def test_equal_linked_clients_run_alike(self):
        chance = random.Random(88)
        count = 0
        for client, world in worlds_by_chance(chance, 500):
            try:
                one = link(assemble_all(client, world.assembled), world.assembled)
                two = link(assemble_all(client, world.assembled), world.linked)
                images = [load(linked, world.loaded) for linked in (one, two)]
            except QuietError:
                continue
            if one == two:
                count += world.assembled != world.linked
                first, second = [list(Machine(image, limit=60).events()) for image in images]
                self.assertEqual(first, second)
        self.assertGreater(count, 20)

    def test_late_units_beside_others(self):
        """Where no call is lost, nobody can tell whether a unit is late."""
        chance = random.Random(89)
        count = 0
        for client, world in worlds_by_chance(chance, 400):
            plain, late = [Client([Unit(part.name, is_late, part.cells, part.blocks) for part in client.units])
                           for is_late in (False, True)]
            rows = outcome(plain, world, limit=60)
            if rows[0][0] != "refused":
                self.assertEqual(outcome(late, world, limit=60), rows)
                self.assertEqual(outcome(client, world, limit=60), rows)
                count += 1
            elif rows[0][1] != "loading" or rows[0][2] in ("wanted", "cell", "size"):
                self.assertEqual(outcome(late, world, limit=60), rows)
        self.assertGreater(count, 100)

    def test_names_that_do_not_matter(self):
        """Names of units, own cells, inner blocks and editions; and all other names if they change everywhere."""
        chance = random.Random(90)
        names = {"u": "z", "a": "y", "own": "cents", "in": "inside", "e": "k", "n": "m"}
        whole = dict(names, f="w2", g="f2", h="x2", w="g2", x="h2", box="tin", can="pot", most="max", least="min",
                     one="p1", two="p2")
        swapped = {new: old for old, new in whole.items()}
        for client, world in worlds_by_chance(chance, 300, 1):
            rows = outcome(client, world, limit=60)
            other = Client.of(*[renamed_text(text, names) for text in client.texts()])
            self.assertEqual(outcome(other, world, limit=60), rows)
            world = World(*[Edition.read(renamed_text(part.text(), whole))
                            for part in (world.assembled, world.linked, world.loaded)])
            other = Client.of(*[renamed_text(text, whole) for text in client.texts()])
            told = [tuple(swapped.get(part, part) if at == len(row) - 1 else part for at, part in enumerate(row))
                    for row in outcome(other, world, limit=60)]
            self.assertEqual(told, rows)

    def test_blocks_in_any_order(self):
        chance = random.Random(91)
        for client, world in worlds_by_chance(chance, 200):
            units = []
            for part in client.units:
                blocks = [Block(block.kind, block.name, block.rows) for block in part.blocks]
                chance.shuffle(blocks)
                units.append(Unit(part.name, part.is_late, part.cells, blocks))
            rows = outcome(client, world, limit=60)
            other = outcome(Client(units), world, limit=60)
            if rows[0][0] != "refused":
                self.assertEqual(other, rows)
            else:
                self.assertEqual(other[0][:2], rows[0][:2])


if __name__ == "__main__":
    unittest.main()
