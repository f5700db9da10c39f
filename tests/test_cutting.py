"""Taking parts away, and cutting (8.5, 8.6)."""

import functools
import random
import unittest

from quietedition.cutting import cut, cut_steps, removals, without
from quietedition.errors import BadMoment
from quietedition.judging import manners_of
from quietedition.runs import is_served, outcome
from quietedition.trials import Trial
from quietedition.units import Client
from quietedition.verdicts import judge
from quietedition.world import Moment, worlds
from quietedition.writing import written
from tests.making import changed, edition, some_client, some_edition, unit
from tests.questions import NO_MOMENTS, questions


def removals_by_words(client):
    """The removals in their order, sorted by what stands ahead of what."""
    found = []
    for at, part in enumerate(client.units):
        found.append((at, None, None))
        for block, rows in enumerate(part.blocks):
            found.append((at, block, None))
            found.extend((at, block, row) for row in range(len(rows.rows)))
    return sorted(found, key=functools.cmp_to_key(order))


def order(one, two):
    """Below 0 if the first removal comes ahead of the second one."""
    for first, second in zip(one, two):
        if first != second:
            # The whole comes ahead of its parts; what is later comes ahead of what is earlier.
            return -1 if first is None else 1 if second is None else second - first
    return 0


def lines_without(lines, gone):
    """The rows of a block, as lines, without one of them."""
    words = [line.split(" ") for line in lines]
    for at in range(gone):
        if words[at][0] in ("same", "there") and at + int(words[at][-1]) >= gone:
            words[at][-1] = str(int(words[at][-1]) - 1)
    del words[gone]
    left = [" ".join(line) for line in words]
    for at, line in enumerate(words):
        if line[0] in ("same", "there") and line[-1] == "0":
            return lines_without(left, at)
    return left


def without_by_words(client, unit_at, block_at, row_at):
    """The client without one of its removals, over its texts; None if no unit is left."""
    texts = client.texts()
    if block_at is None:
        del texts[unit_at]
        return Client.of(*texts) if texts else None
    blocks = [[]]
    for line in texts[unit_at].split("\n"):
        if line.split(" ")[0] in ("routine", "inner", "start"):
            blocks.append([])
        blocks[-1].append(line)
    head, rows = blocks[block_at + 1][0], blocks[block_at + 1][1:]
    rows = [] if row_at is None else lines_without(rows, row_at)
    blocks[block_at + 1] = [head] + rows if rows else []
    texts[unit_at] = "\n".join(line for block in blocks for line in block)
    return Client.of(*texts)


def steps_by_words(client, elder, newer, moment, limit):
    """The clients of 8.6: passes over the removals, as long as one makes a removal."""
    def notices(part):
        first, second = [outcome(part, world, limit=limit) for world in worlds(elder, newer, moment)]
        return is_served(part, elder) and first != second

    steps = [client]
    made = notices(client)
    while made:
        made = False
        last = None
        while True:
            behind = [part for part in removals_by_words(steps[-1]) if last is None or order(last, part) < 0]
            if not behind:
                break
            last = behind[0]
            smaller = without_by_words(steps[-1], *last)
            if smaller is None or not notices(smaller):
                continue
            if manners_of(smaller, elder, newer).is_part_of(manners_of(steps[-1], elder, newer)):
                steps.append(smaller)
                made = True
    return steps


class Removals(unittest.TestCase):
    def test_order(self):
        client = Client.of("unit a\nroutine w\nend\ntell 1\nstart\nend", "unit b", "unit c\ncell x 1\ninner i\nend")
        self.assertEqual(list(removals(client=client)), [
            (2, None, None), (2, 0, None), (2, 0, 0), (1, None, None), (0, None, None), (0, 1, None), (0, 1, 0),
            (0, 0, None), (0, 0, 1), (0, 0, 0)])
        self.assertEqual(list(removals(Client.of("unit a"))), [(0, None, None)])

    def test_by_chance(self):
        chance = random.Random(161)
        for _ in range(200):
            elder = some_edition(chance)
            client = some_client(chance, elder, elder)
            found = list(removals(client))
            self.assertEqual(found, removals_by_words(client))
            for removal in found:
                smaller = without(client, *removal)
                wanted = without_by_words(client, *removal)
                if wanted is None:
                    self.assertIsNone(smaller)
                else:
                    self.assertEqual(smaller, wanted)
                    self.assertEqual(Client.of(*smaller.texts()), smaller)


class Without(unittest.TestCase):
    def rows(self, rows, row):
        client = Client.of(unit("routine w", *rows, "start", "end"))
        before = client.texts()
        smaller = without(client, 0, 0, row)
        self.assertEqual(client.texts(), before)
        lines = smaller.texts()[0].split("\n")
        return lines[2:lines.index("start")] if "routine w" in lines else None

    def test_rows(self):
        self.assertEqual(self.rows(["tell 1", "tell 2", "tell 3"], 1), ["tell 1", "tell 3"])
        self.assertEqual(self.rows(["tell 1", "tell 2", "tell 3"], 0), ["tell 2", "tell 3"])
        self.assertEqual(self.rows(["tell 1", "tell 2", "tell 3"], 2), ["tell 1", "tell 2"])
        self.assertIsNone(self.rows(["tell 1"], 0))

    def test_one_row_fewer_is_skipped(self):
        rows = ["same 1 2 else 2", "there f else 3", "tell 1", "tell 2", "tell 3"]
        self.assertEqual(self.rows(rows, 2), ["same 1 2 else 1", "there f else 2", "tell 2", "tell 3"])
        self.assertEqual(self.rows(rows, 3), ["same 1 2 else 2", "there f else 2", "tell 1", "tell 3"])
        self.assertEqual(self.rows(rows, 4), ["same 1 2 else 2", "there f else 2", "tell 1", "tell 2"])
        self.assertEqual(self.rows(rows, 1), ["same 1 2 else 1", "tell 1", "tell 2", "tell 3"])
        self.assertEqual(self.rows(rows, 0), ["there f else 3", "tell 1", "tell 2", "tell 3"])

    def test_rows_that_skip_no_row_go_too(self):
        self.assertEqual(self.rows(["same 1 it else 1", "tell 1", "tell 2"], 1), ["tell 2"])
        self.assertEqual(self.rows(["same 1 it else 2", "there f else 1", "tell 1", "tell 2"], 2), ["tell 2"])
        self.assertEqual(self.rows(["same 1 it else 3", "there f else 1", "tell 1", "tell 2"], 2),
                         ["same 1 it else 1", "tell 2"])
        self.assertEqual(self.rows(["same 1 it else 2", "tell 0", "there f else 1", "tell 1", "tell 2"], 3),
                         ["same 1 it else 1", "tell 0", "tell 2"])
        rows = [f"same 1 it else {4 - n}" for n in range(4)] + ["tell 1"]
        self.assertIsNone(self.rows(rows, 4))
        self.assertEqual(self.rows(rows + ["end"], 4), ["end"])
        self.assertEqual(self.rows(rows + ["end"], 0), rows[1:] + ["end"])
        self.assertIsNone(self.rows(["same 1 1 else 1", "tell 1"], 1))

    def test_rows_behind_a_row_do_not_skip_it(self):
        self.assertEqual(self.rows(["tell 1", "same 1 2 else 1", "tell 2"], 0), ["same 1 2 else 1", "tell 2"])

    def test_blocks_and_units(self):
        client = Client.of("unit a late\ncell x 5\nroutine w\nend\nstart\nend", "unit b\ninner i\nend")
        self.assertEqual(without(client, 0).texts(), ["unit b\ninner i\nend"])
        self.assertEqual(without(client, 1).texts(), [client.texts()[0]])
        self.assertEqual(without(client, 0, 0).texts()[0], "unit a late\ncell x 5\nstart\nend")
        self.assertEqual(without(client=client, unit=1, block=0, row=None).texts()[1], "unit b")
        self.assertEqual(without(without(client, 0, 1, 0), 0, 0, 0).texts()[0], "unit a late\ncell x 5")
        self.assertIsNone(without(without(client, 0), 0))
        self.assertIsNone(without(Client.of("unit a"), unit=0))


class Cut(unittest.TestCase):
    ELDER = edition("wants w", "routine f open", "tell 1", "routine g open", "tell 5")
    NEWER = edition("wants w", "routine f open", "tell 2", "routine g open", "tell 5")

    def test_a_client(self):
        client = Client.of(unit("cell a 3", "routine w", "tell 1", "end", "routine x", "call f 1", "start", "call g 1",
                                "same $a 3 else 2", "there f else 1", "call f 1", "tell 4", "end"),
                           "unit v\ncell b 0\ninner i\nend")
        small = cut(client=client, elder=self.ELDER, newer=self.NEWER, moment="linked")
        self.assertEqual(small.texts(), ["unit u\ncell a 3\nroutine w\ntell 1\nstart\ncall f 1"])
        steps = list(cut_steps(client, self.ELDER, self.NEWER, "linked"))
        self.assertEqual(steps[0], client)
        self.assertEqual(steps[-1], small)
        self.assertEqual(steps, steps_by_words(client, self.ELDER, self.NEWER, "linked", 3000))

    def test_a_client_that_does_not_notice(self):
        for rows in (["call g 1"], ["call h 1"], ["end", "call f 1"]):
            client = Client.of(unit("routine w", "end", "start", *rows))
            for moment in Moment.ALL:
                self.assertEqual(list(cut_steps(client, self.ELDER, self.NEWER, moment)), [client])
                self.assertEqual(cut(client, self.ELDER, self.NEWER, moment), client)

    def test_the_only_unit_stays(self):
        client = Client.of(unit("cell a 0", "routine w", "end", "start", "call f 1"))
        self.assertEqual(cut(client, self.ELDER, self.NEWER, "linked"), client)
        # One of two units goes even if the other one has to stay.
        more = Client.of("unit z\ninner i\nend", client.texts()[0])
        self.assertEqual(cut(more, self.ELDER, self.NEWER, "linked"), client)

    def test_no_manner_comes_in(self):
        """Without the inner block of the name f the call would leave the client, with its tag."""
        elder, newer = [edition("routine f open at 2", f"tell {n}", "routine g open", f"tell {n}") for n in (0, 1)]
        client = Client.of(unit("inner f", "call g 1", "start", "call f 1 at 2"))
        self.assertEqual(cut(client, elder, newer, "linked"), client)
        untagged = Client.of(unit("inner f", "call g 1", "start", "call f 1"))
        elder, newer = [edition("routine f open", f"tell {n}", "routine g open", f"tell {n}") for n in (0, 1)]
        self.assertEqual(cut(untagged, elder, newer, "linked").texts(), [unit("start", "call f 1")])

    def test_a_manner_that_is_gone_does_not_come_back(self):
        """The manners are those of the client at hand, not those of the first one."""
        elder, newer = [edition("wants w", "routine f open at 2 default", f"tell {n}") for n in (0, 1)]
        client = Client.of(unit("routine w", "end", "inner f", "call f 1 at 2", "start", "call f 1 at 2", "end"),
                           "unit v\nroutine x\ncall f 1 at 2\ninner y\ncall f 1\nend")
        steps = list(cut_steps(client, elder, newer, "linked"))
        self.assertEqual(steps, steps_by_words(client, elder, newer, "linked", 3000))
        told = [manners_of(step, elder, newer) for step in steps]
        self.assertTrue(all(two.is_part_of(one) for one, two in zip(told, told[1:])))

    def test_passes_are_repeated(self):
        """The call can go only behind the row ahead of it, which the same pass comes to later."""
        elder, newer = [edition("cell p open 0", "routine f open", f"tell {n}", "routine g open", "set p.0 7")
                        for n in (0, 1)]
        client = Client.of(unit("cell a 0", "start", "set $a 1", "call g 1", "same p.0 7 else 3", "same $a 1 else 2",
                                "same $a 1 else 1", "call f 1", "end"))
        steps = list(cut_steps(client, elder, newer, "linked"))
        self.assertEqual(steps, steps_by_words(client, elder, newer, "linked", 3000))
        self.assertEqual(steps[-1].texts(), [unit("cell a 0", "start", "call f 1")])

    def test_limits(self):
        client = Client.of(unit("routine w", "end", "start", "tell 1", "tell 1", "call f 1"))
        self.assertEqual(cut(client, self.ELDER, self.NEWER, "linked", limit=2), client)
        self.assertEqual(cut(client, self.ELDER, self.NEWER, "linked", limit=3).texts(),
                         [unit("routine w", "end", "start", "call f 1")])
        with self.assertRaises(TypeError):
            cut(client, self.ELDER, self.NEWER, "linked", 2)
        with self.assertRaises(TypeError):
            list(cut_steps(client, self.ELDER, self.NEWER, "linked", 2))

    def test_no_moment(self):
        client = Client.of(unit("start", "end"))
        for thing in NO_MOMENTS:
            with self.assertRaises(BadMoment) as caught:
                cut(client, self.ELDER, self.NEWER, thing)
            self.assertEqual(caught.exception.moment, thing)
            # A generator: nothing is raised before the iteration begins.
            steps = cut_steps(client, self.ELDER, self.NEWER, thing)
            with self.assertRaises(BadMoment):
                next(steps)

    def test_by_chance(self):
        chance = random.Random(162)
        count = 0
        sizes = {}
        while count < 120:
            elder = some_edition(chance)
            newer = changed(chance, elder)
            moment = chance.choice(Moment.ALL)
            client = some_client(chance, elder, newer, 2)
            if not Trial(client, elder, newer, moment, limit=80).is_noticing:
                continue
            count += 1
            steps = list(cut_steps(client, elder, newer, moment, limit=80))
            wanted = steps_by_words(client, elder, newer, moment, 80)
            self.assertEqual(steps, wanted)
            sizes[len(steps)] = sizes.get(len(steps), 0) + 1
            self.assertEqual(cut(client, elder, newer, moment, limit=80), wanted[-1])
        self.assertGreater(len(sizes), 8)

    def test_what_is_left(self):
        """It notices, has no other manners, needs no fewer moves than the cost, and nothing can be taken away."""
        chance = random.Random(163)
        count = 0
        for elder, newer, moment, manners in questions(chance, 260):
            client = written(judge(elder, newer, moment, manners))
            if client is None:
                continue
            small = cut(client, elder, newer, moment)
            trial = Trial(small, elder, newer, moment)
            self.assertTrue(trial.is_noticing)
            self.assertTrue(trial.manners.is_part_of(manners))
            self.assertGreaterEqual(trial.moves(), judge(elder, newer, moment, manners).cost)
            for removal in removals(small):
                less = without(small, *removal)
                if less is not None and manners_of(less, elder, newer).is_part_of(trial.manners):
                    self.assertFalse(Trial(less, elder, newer, moment).is_noticing)
            count += 1
        self.assertGreater(count, 40)


if __name__ == "__main__":
    unittest.main()
