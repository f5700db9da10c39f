"""The machine (5.4 to 5.7), and its events played again by a core alone."""

import random
import unittest

from quietedition.assembling import assemble_all
from quietedition.core import Core
from quietedition.errors import QuietError
from quietedition.linking import link
from quietedition.loading import load
from quietedition.machine import LIMIT, Machine
from quietedition.world import Moment, worlds
from tests.making import changed, edition, image_by, linked_by, some_client, some_edition, unit
from tests.reference import Reference

PLAIN = ("end", "plain")


def told(image, **limits):
    return list(Machine(image, **limits).events())


def run(elder, *texts, **limits):
    """The events of a client in an edition."""
    return told(image_by(elder, *texts), **limits)


class Rows(unittest.TestCase):
    def test_fields(self):
        image = image_by(edition(), unit("start", "end"))
        self.assertEqual((Machine(image).image, Machine(image).limit), (image, 3000))
        self.assertEqual(Machine(image=image, limit=7).limit, 7)
        self.assertEqual(LIMIT, 3000)
        with self.assertRaises(TypeError):
            Machine(image, 7)

    def test_values(self):
        lib = edition("number most 9", "cell box open 4 5", "routine f open", "end")
        events = run(lib, "unit u\ncell own -3\nroutine show\ntell it\nstart\ntell 7\ntell $own\ntell #most\ntell box.1\n"
                     "call show box.0\ncall f $own")
        self.assertEqual(events, [
            ("tell", "client", 7), ("tell", "client", -3), ("tell", "client", 9), ("read", "box", 1),
            ("tell", "client", 5), ("read", "box", 0), ("tell", "client", 4), ("into", "f", 0, -3), ("home",), PLAIN])

    def test_numbers_are_those_of_assembling(self):
        elder, newer = edition("number most 9"), edition("number most 8")
        image = load(linked_by(elder, unit("start", "tell #most")), newer)
        self.assertEqual(told(image), [("tell", "client", 9), PLAIN])

    def test_set(self):
        lib = edition("cell box open 4 5")
        events = run(lib, "unit u\ncell own 0\nstart\nset box.0 box.1\nset $own box.0\nset box.1 $own\nset $own 6\n"
                     "tell $own\ntell box.1")
        self.assertEqual(events, [
            ("read", "box", 1), ("write", "box", 0, 5), ("read", "box", 0), ("write", "box", 1, 5),
            ("tell", "client", 6), ("read", "box", 1), ("tell", "client", 5), PLAIN])

    def test_same(self):
        lib = edition("cell box open 4 5")
        events = run(lib, unit("start", "same box.0 box.1 else 2", "tell 1", "tell 2", "same box.1 box.1 else 1",
                               "tell 3", "same 1 box.0 else 1", "tell 4"))
        self.assertEqual(events, [
            ("read", "box", 0), ("read", "box", 1), ("read", "box", 1), ("read", "box", 1), ("tell", "client", 3),
            ("read", "box", 0), PLAIN])

    def test_there(self):
        lib = edition("wants w", "routine f guarded at 1", "end", "routine h hidden", "end")
        rows = [f"there {name} else 1\ntell {k}" for k, name in enumerate(("f", "h", "w", "i", "none"))]
        events = run(lib, unit("routine w", "end", "inner i", "end", "start", *rows))
        self.assertEqual(events, [("tell", "client", 0), ("tell", "client", 2), PLAIN])
        self.assertEqual(run(edition(), unit("start", "there f else 2", "tell 1", "tell 2", "tell 3")),
                         [("tell", "client", 3), PLAIN])

    def test_end(self):
        self.assertEqual(run(edition(), unit("start", "call i 1", "tell 2", "end", "tell 3", "inner i", "tell 1",
                                             "end", "tell 4")),
                         [("tell", "client", 1), ("tell", "client", 2), PLAIN])

    def test_calls_in_the_client_have_no_event(self):
        events = run(edition(), "unit b\nstart\ncall f 1\ncall i 2\ninner i\ntell it\ncall f it\ntell it",
                     "unit a\nroutine f\ncall i 8\ntell it\ninner i\ntell it")
        self.assertEqual([event[2] for event in events[:-1]], [8, 1, 2, 8, 2, 2])
        self.assertEqual(events[-1], PLAIN)

    def test_own_cells(self):
        """All activations of a unit share them; those of two units never meet, whatever their names are."""
        events = run(edition(), "unit a\ncell own 1\nroutine f\nset $own it\nstart\ntell $own\ncall f 5\ntell $own\n"
                     "call g 6\ntell $own", "unit b\ncell own 2\nroutine g\ntell $own\nset $own it\ntell $own")
        self.assertEqual([event[2] for event in events[:-1]], [1, 5, 2, 6, 5])


class Edges(unittest.TestCase):
    def test_first_blocks_run_first_and_one_by_one(self):
        lib = edition("cell box open 0", "wants w", "first two after one", "tell box.0", "call w 2", "tell 22",
                      "first one", "call w 1", "set box.0 7")
        events = run(lib, unit("routine w", "tell it", "tell box.0", "start", "tell 3"))
        self.assertEqual(events, [
            ("first", "one"), ("out", "w", 1), ("tell", "client", 1), ("read", "box", 0), ("tell", "client", 0),
            ("done",), ("home",),
            ("first", "two"), ("tell", "edition", 7), ("out", "w", 2), ("tell", "client", 2), ("read", "box", 0),
            ("tell", "client", 7), ("done",), ("tell", "edition", 22), ("home",),
            ("tell", "client", 3), PLAIN])

    def test_a_first_block_may_be_entered_from_a_call_back(self):
        lib = edition("wants w", "first one", "call w 1", "routine f open", "tell it")
        self.assertEqual(run(lib, unit("routine w", "call f 4", "start", "end")), [
            ("first", "one"), ("out", "w", 1), ("into", "f", 0, 4), ("tell", "edition", 4), ("home",), ("done",),
            ("home",), PLAIN])

    def test_nested_calls_back(self):
        lib = edition("wants w", "routine f open at 2 default", "tell it", "call w 5", "tell 6")
        client = unit("cell own 0", "routine w", "same $own 0 else 3", "set $own 1", "call f 8 at 2", "tell 9",
                      "start", "call f 7")
        self.assertEqual(run(lib, client), [
            ("into", "f", 2, 7), ("tell", "edition", 7), ("out", "w", 5), ("into", "f", 2, 8), ("tell", "edition", 8),
            ("out", "w", 5), ("done",), ("tell", "edition", 6), ("home",), ("tell", "client", 9), ("done",),
            ("tell", "edition", 6), ("home",), PLAIN])

    def test_taken_over(self):
        lib = edition("routine f open", "tell 1", "routine g open", "call f it", "routine h guarded", "tell 2",
                      "routine k open", "call h it")
        client = "unit a\nstart\ncall g 3\ncall k 4\ncall f 5\ncall h 6"
        giver = "unit b\nroutine f\ntell it\nroutine h\ntell 8"
        self.assertEqual(run(lib, client, giver), [
            ("into", "g", 0, 3), ("out", "f", 3), ("tell", "client", 3), ("done",), ("home",),
            ("into", "k", 0, 4), ("tell", "edition", 2), ("home",), ("tell", "client", 5), ("tell", "client", 8), PLAIN])

    def test_a_call_back_into_an_inner_call(self):
        """Only what the edition called back is done for it; blocks that the client called itself are not."""
        lib = edition("wants w", "routine f open", "call w 1", "tell 2")
        client = unit("routine w", "call i it", "inner i", "end", "start", "call i 0", "call f 0")
        self.assertEqual(run(lib, client), [("into", "f", 0, 0), ("out", "w", 1), ("done",), ("tell", "edition", 2),
                                            ("home",), PLAIN])

    def test_lost(self):
        elder = edition("cell box open 3", "wants w", "routine f open", "end", "routine g open", "call w 1")
        newer = edition("cell box open 4", "wants w", "routine g open", "call w 1")
        client = "unit u late\nroutine w\ncall f box.0\ntell 5\nstart\ncall g 1\ntell 6"
        image = load(linked_by(elder, client), newer)
        self.assertEqual(told(image), [("into", "g", 0, 1), ("out", "w", 1), ("read", "box", 0), ("end", "lost f")])
        self.assertEqual(told(image, limit=1), [("into", "g", 0, 1), ("out", "w", 1), ("end", "long")])
        self.assertEqual(told(image, limit=2)[-1], ("end", "lost f"))

    def test_the_real_tag(self):
        elder = edition("routine f open", "end")
        newer = edition("routine f open at 7 default", "tell it", "routine f open at 6", "end")
        image = load(linked_by(elder, unit("start", "call f 1")), newer)
        self.assertEqual(told(image)[0], ("into", "f", 7, 1))

    def test_a_new_run_at_each_call(self):
        lib = edition("cell box open 0", "routine f open", "tell box.0", "set box.0 it")
        machine = Machine(image_by(lib, unit("cell own 1", "start", "tell $own", "set $own 2", "call f 9")))
        first = list(machine.events())
        halfway = machine.events()
        self.assertEqual([next(halfway), next(halfway), next(halfway)], first[:3])
        self.assertEqual(list(machine.events()), first)
        self.assertEqual(list(halfway), first[3:])
        self.assertEqual(first, [("tell", "client", 1), ("into", "f", 0, 9), ("tell", "edition", 0), ("home",), PLAIN])


class Limits(unittest.TestCase):
    def test_small_limits(self):
        lib = edition("wants w", "first one", "tell 1", "call w 2", "tell 3")
        client = unit("routine w", "tell 4", "start", "tell 5", "end")
        whole = [("first", "one"), ("tell", "edition", 1), ("out", "w", 2), ("tell", "client", 4), ("done",),
                 ("tell", "edition", 3), ("home",), ("tell", "client", 5), PLAIN]
        long = ("end", "long")
        self.assertEqual(run(lib, client, limit=0), whole[:3] + [long])
        self.assertEqual(run(lib, client, limit=1), whole[:7] + [long])
        self.assertEqual(run(lib, client, limit=2), whole[:8] + [long])
        for limit in (3, 4, 3000, 10000):
            self.assertEqual(run(lib, client, limit=limit), whole)
        self.assertEqual(run(edition(), unit("start", "tell 1"), limit=0), [long])

    def test_every_kind_of_row_counts_and_nothing_of_one_too_many_happens(self):
        lib = edition("cell box open 0", "routine f open", "end")
        rows = ["set box.0 box.0", "same box.0 1 else 1", "end", "there f else 1", "tell box.0", "call f 1", "call i 1",
                "end"]
        client = unit("inner i", "tell 1", "start", *rows)
        whole = run(lib, client)
        self.assertEqual(whole[-1], PLAIN)
        cuts = [run(lib, client, limit=limit) for limit in range(9)]
        self.assertEqual([len(events) for events in cuts], [1, 3, 4, 4, 6, 8, 8, 9, 9])
        for limit, events in enumerate(cuts):
            self.assertEqual(events[:-1], whole[:len(events) - 1])
            self.assertEqual(events[-1], PLAIN if limit == 8 else ("end", "long"))

    def test_rows_that_are_skipped_do_not_count(self):
        client = unit("start", "same 1 2 else 2", "tell 1", "tell 2", "tell 3")
        self.assertEqual(run(edition(), client, limit=2)[-1], PLAIN)

    def test_nested_as_deep_as_the_limit(self):
        deep = unit("routine f", "call f it", "start", "call f 1")
        self.assertEqual(run(edition(), deep, limit=10000), [("end", "long")])
        lib = edition("wants w", "routine f open", "call w it")
        events = run(lib, unit("routine w", "call f it", "start", "call f 1"), limit=10000)
        self.assertEqual(events, [("into", "f", 0, 1), ("out", "w", 1)] * 10000 + [("end", "long")])

    def test_the_way_back_from_the_depth(self):
        lib = edition("wants w", "routine f open", "call w it", "tell 1")
        client = unit("cell a 0", "routine w", "same $a 0 else 2", "set $a 1", "call f 2", "start", "call f 1")
        self.assertEqual(run(lib, client), [
            ("into", "f", 0, 1), ("out", "w", 1), ("into", "f", 0, 2), ("out", "w", 2), ("done",),
            ("tell", "edition", 1), ("home",), ("done",), ("tell", "edition", 1), ("home",), PLAIN])


def replayed(events, image):
    """The events of a run as a core alone tells them: what the client does is taken from the events."""
    core = Core(image.edition, list(image.linked.given))
    values, stack, whole = core.first_values, [], []
    waiting = list(core.firsts)
    goes = False
    for event in events:
        kind = event[0]
        if kind == "first":
            assert event[1] == waiting.pop(0)
            stack.append(core.open_first(event[1]))
            goes = True
        elif kind == "into":
            stack.append(core.enter(*event[1:]))
            goes = True
        elif kind == "done":
            goes = True
        elif kind == "write":
            at = core.places.index(event[1:3])
            values = values[:at] + (event[3],) + values[at + 1:]
        elif kind in ("home", "out") or event[:2] == ("tell", "edition"):
            assert goes
            frames = stack.pop()
            before = core.count(values, frames)
            assert before <= 100
            own, values, frames = core.go(values, frames)
            if own[0] == "home":
                own = ("home",)
            else:
                stack.append(frames)
                own = ("out",) + own[1:] if own[0] == "back" else ("tell", "edition", own[1])
            goes = own[0] == "tell"
            whole.append((own, event))
    return whole


class Random(unittest.TestCase):
    def images(self, seed, count):
        chance = random.Random(seed)
        for _ in range(count):
            elder = some_edition(chance, most_rows=5)
            newer = changed(chance, elder)
            client = some_client(chance, elder, newer, 2)
            for moment in Moment.ALL:
                for world in worlds(elder, newer, moment):
                    try:
                        linked = link(assemble_all(client, world.assembled), world.linked)
                        yield client, world, load(linked, world.loaded)
                    except QuietError:
                        continue

    def test_as_the_words_say(self):
        seen = {}
        for client, world, image in self.images(61, 700):
            for limit in (0, 1, 5, 60):
                events = told(image, limit=limit)
                self.assertEqual(events, Reference(client, world, limit).events())
                for event in events:
                    seen[event[0]] = seen.get(event[0], 0) + 1
        self.assertGreater(min(seen.values()), 100)
        self.assertEqual(sorted(seen), ["done", "end", "first", "home", "into", "out", "read", "tell", "write"])

    def test_a_core_alone_tells_the_same(self):
        count = 0
        for _, _, image in self.images(62, 400):
            pairs = replayed(told(image, limit=60), image)
            count += len(pairs)
            for own, event in pairs:
                self.assertEqual(own, event)
        self.assertGreater(count, 1000)

    def test_properly_nested_or_cut(self):
        for _, _, image in self.images(63, 200):
            whole = told(image, limit=80)
            levels = []
            for event in whole:
                if event[0] in ("first", "into"):
                    levels.append("home")
                elif event[0] == "out":
                    levels.append("done")
                elif event[0] in ("home", "done"):
                    self.assertEqual(levels.pop(), event[0])
            if whole[-1] == PLAIN:
                self.assertEqual(levels, [])
            for limit in (3, 17):
                cut = told(image, limit=limit)
                if cut[-1] == ("end", "long"):
                    self.assertEqual(cut[:-1], whole[:len(cut) - 1])
                else:
                    self.assertEqual(cut, whole)


if __name__ == "__main__":
    unittest.main()
