"""The manners of a client (8.1)."""

import random
import unittest

from quietedition.judging import manners_of
from quietedition.manners import Manners
from quietedition.units import Client
from tests.making import changed, edition, some_client, some_edition, unit
from tests.oracle import manners_by_words

NO_LINES = edition()


def names_of(client, elder=NO_LINES, newer=NO_LINES):
    return manners_of(client, elder, newer).names


class EachAlone(unittest.TestCase):
    def test_none(self):
        client = Client.of(unit("cell a 0", "routine w", "tell it", "call f #n", "inner i", "call w 1", "start",
                                "set $a 1", "same $a 1 else 1", "call i 2", "call w 2", "end"))
        self.assertEqual(manners_of(client=client, elder=NO_LINES, newer=NO_LINES), Manners.of())

    def test_asks(self):
        self.assertEqual(names_of(Client.of(unit("start", "end", "there f else 1", "end"))), ("asks",))
        self.assertEqual(names_of(Client.of("unit v\nstart\nend", unit("inner i", "there f else 1", "end"))), ("asks",))

    def test_free(self):
        client = Client.of(unit("routine w", "end", "start", "end"))
        offers, wants, hides = edition("routine w guarded", "end"), edition("wants w"), edition("routine w hidden", "end")
        for newer in (offers, wants):
            self.assertEqual(names_of(client, NO_LINES, newer), ("free",))
            self.assertEqual(names_of(client, hides, newer), ("free",))
            self.assertEqual(names_of(client, wants, newer), ())
            self.assertEqual(names_of(client, offers, newer), ("over",))
        for newer in (NO_LINES, hides):
            self.assertEqual(names_of(client, NO_LINES, newer), ())
        inner = Client.of(unit("inner w", "end", "start", "end"))
        self.assertEqual(names_of(inner, NO_LINES, offers), ())

    def test_over(self):
        client = Client.of("unit v\nroutine w\nend", unit("start", "end"))
        for lines in (("routine w open", "end"), ("routine w guarded at 2", "end"),
                      ("routine w hidden at 1", "end", "routine w open at 2", "end")):
            self.assertEqual(names_of(client, edition(*lines), NO_LINES), ("over",))
        self.assertEqual(names_of(client, edition("routine w hidden", "end"), NO_LINES), ())
        self.assertEqual(names_of(client, edition("wants w"), edition("routine w open", "end")), ())

    def test_shows_at_each_place_of_a_row(self):
        for row, wanted in (("tell #n", True), ("same #n 1 else 1", True), ("same 1 #n else 1", True),
                            ("set $a #n", True), ("call f #n", False), ("call w #n", True), ("call i #n", True),
                            ("call f #n at 2", False), ("call w #n at 2", True), ("tell $a", False)):
            client = Client.of(unit("cell a 0", "routine w", "end", "inner i", "end", "start", row, "end"))
            self.assertEqual("shows" in names_of(client), wanted, row)
        put = Client.of(unit("start", "set box.0 #n", "end"))
        self.assertEqual(names_of(put), ("straight",))
        self.assertEqual(names_of(Client.of(unit("start", "set box.0 #n", "tell #n"))), ("shows", "straight"))

    def test_a_name_that_another_unit_has(self):
        """An inner block of another unit does not count, a shared one does."""
        caller = unit("start", "call i #n at 3")
        self.assertEqual(names_of(Client.of(caller, "unit v\ninner i\nend")), ("tags",))
        self.assertEqual(names_of(Client.of(caller, "unit v\nroutine i\nend")), ("shows",))
        self.assertEqual(names_of(Client.of(caller)), ("tags",))

    def test_straight_at_each_place_of_a_row(self):
        for row in ("tell p.0", "same p.1 1 else 1", "same 1 p.0 else 1", "set p.0 1", "set $a p.0", "call f p.9",
                    "call i p.0"):
            client = Client.of(unit("cell a 0", "inner i", "end", "start", row, "end"))
            self.assertEqual(names_of(client), ("straight",), row)

    def test_tags(self):
        for row, wanted in (("call f 1 at 2", ("tags",)), ("call f 1", ()), ("call w 1 at 2", ()), ("call i 1 at 2", ())):
            client = Client.of(unit("routine w", "end", "inner i", "end", "start", "end", row))
            self.assertEqual(names_of(client), wanted, row)

    def test_within(self):
        client = Client.of(unit("routine w", "call i 1", "inner i", "call j 1", "inner j", "end", "call f 1", "start", "end"))
        wants, called = edition("wants w"), edition("routine w open", "end", "first f", "call w 1")
        self.assertEqual(names_of(client, wants, NO_LINES), ("within",))
        self.assertEqual(names_of(client, wants, wants), ("within",))
        self.assertEqual(names_of(client, NO_LINES, wants), ("free", "within"))
        self.assertEqual(names_of(client, called, NO_LINES), ("over", "within"))
        self.assertEqual(names_of(client, NO_LINES, called), ("free", "within"))
        # No entry: it is not open, or no row calls it.
        for lines in (("routine w guarded", "end", "first f", "call w 1"), ("routine w open", "end")):
            self.assertEqual(names_of(client, edition(*lines), NO_LINES), ("over",))
        self.assertEqual(names_of(client, NO_LINES, NO_LINES), ())

    def test_within_needs_a_call_that_leaves(self):
        wants = edition("wants w", "wants v")
        for rows, wanted in ((["call i 1"], False), (["call f 1"], True), (["call f 1 at 1"], True), (["call v 1"], True),
                             (["call w 1"], False), (["there f else 1", "end"], False), (["set p.0 1"], False)):
            client = Client.of(unit("routine w", *rows, "routine x", "call f 1", "inner i", "end", "start", "call f 1"))
            self.assertEqual("within" in names_of(client, wants, wants), wanted, rows)
        start = Client.of(unit("routine w", "end", "start", "call f 1"))
        self.assertEqual(names_of(start, wants, wants), ())
        other = Client.of(unit("routine w", "call x 1", "start", "end"), "unit v\nroutine x\ncall in 1\ninner in\ncall f 1")
        self.assertEqual(names_of(other, wants, wants), ("within",))

    def test_all_shared_blocks_of_a_name_count(self):
        """Also where two units give the name, which no edition links."""
        wants = edition("wants w")
        texts = ["unit a\nroutine w\nend\nstart\nend", "unit b\nroutine w\ncall f 1"]
        self.assertEqual(names_of(Client.of(*texts), wants, wants), ("within",))
        self.assertEqual(names_of(Client.of(*texts[::-1]), wants, wants), ("within",))

    def test_rows_that_no_run_comes_to(self):
        client = Client.of(unit("inner i", "there f else 1", "tell #n", "start", "end", "call f p.0 at 1"))
        self.assertEqual(names_of(client), ("asks", "shows", "straight", "tags"))

    def test_late_units_count_as_well(self):
        self.assertEqual(names_of(Client.of("unit u late\nstart\ntell p.0")), ("straight",))


class ByChance(unittest.TestCase):
    def test_as_the_words_say(self):
        chance = random.Random(131)
        seen = {name: 0 for name in Manners.ALL}
        for _ in range(1500):
            elder = some_edition(chance)
            newer = changed(chance, elder)
            client = some_client(chance, elder, newer)
            wanted = manners_by_words(client, elder, newer)
            self.assertEqual(manners_of(client, elder, newer), wanted)
            for name in wanted:
                seen[name] += 1
        self.assertGreater(min(seen.values()), 50)


if __name__ == "__main__":
    unittest.main()
