"""Cores (5.1 to 5.3)."""

import random
import unittest

from quietedition.core import Core
from tests.making import edition, some_edition


def member(name, row, argument, tag=0):
    return (("routine", name, tag), row, argument)


class Fields(unittest.TestCase):
    def test_fields(self):
        made = edition("cell can hidden 5", "cell box open -3", "first two after one", "end", "first one", "end")
        given = ["w", "a", "w"]
        core = Core(edition=made, given=given)
        given.append("z")
        self.assertEqual(core.edition, made)
        self.assertEqual(core.given, ("a", "w"))
        self.assertEqual(core.places, (("can", 0), ("box", 0)))
        self.assertEqual(core.first_values, (5, -3))
        self.assertEqual(core.firsts, ("one", "two"))
        bare = Core(edition(), ())
        self.assertEqual((bare.given, bare.places, bare.first_values, bare.firsts), ((), (), (), ()))
        self.assertEqual(Core(edition("cell box open 4 5"), []).places, (("box", 0), ("box", 1)))

    def test_beginnings(self):
        made = edition("first b", "end", "first a", "end", "routine f open at 3 default", "end")
        core = Core(made, [])
        self.assertEqual(core.enter("f", 3, -7), (member("f", 0, -7, 3),))
        self.assertEqual(core.enter(name="f", tag=3, n=0), (member("f", 0, 0, 3),))
        self.assertEqual(core.open_first("a"), ((("first", "a"), 0, None),))
        self.assertEqual(core.load(), ((("first", "a"), 0, None), (("first", "b"), 0, None)))
        self.assertEqual(Core(edition(), []).load(), ())
        after = edition("first b after a", "end", "first a", "end")
        self.assertEqual(Core(after, []).load(), ((("first", "b"), 0, None), (("first", "a"), 0, None)))


class Rows(unittest.TestCase):
    """Each kind of row, from the beginning of the member f with the argument 4."""

    LINES = ("number most 9", "cell box open 1 2")

    def go(self, *rows, given=(), values=(1, 2), others=()):
        core = Core(edition(*self.LINES, "wants w", "routine f open", *rows, *others), given)
        frames = core.enter("f", 0, 4)
        return core.go(values, frames) + (core.count(values, frames),)

    def test_tell(self):
        for value, n in (("7", 7), ("it", 4), ("box.0", 1), ("box.1", 2), ("#most", 9), ("-5", -5)):
            self.assertEqual(self.go(f"tell {value}", "end"), (("tell", n), (1, 2), (member("f", 1, 4),), 1))

    def test_a_frame_stays_behind_its_last_row(self):
        self.assertEqual(self.go("tell 3"), (("tell", 3), (1, 2), (member("f", 1, 4),), 1))
        core = Core(edition("routine f open", "tell 3"), [])
        self.assertEqual(core.go((), (member("f", 1, 4),)), (("home",), (), ()))
        self.assertEqual(core.count((), (member("f", 1, 4),)), 0)
        self.assertEqual(core.go((), (member("f", 0, 1), member("f", 1, 4))),
                         (("tell", 3), (), (member("f", 1, 1),)))

    def test_set(self):
        self.assertEqual(self.go("set box.1 it"), (("home",), (1, 4), (), 1))
        self.assertEqual(self.go("set box.0 box.1", "set box.1 #most", "tell box.0"),
                         (("tell", 2), (2, 9), (member("f", 3, 4),), 3))

    def test_same(self):
        for left, right, is_same in (("it", "4", True), ("box.0", "box.1", False), ("#most", "9", True),
                                     ("it", "it", True), ("1", "2", False), ("box.1", "2", True)):
            told = self.go(f"same {left} {right} else 2", "set box.0 0", "tell 1", "tell 2")
            if is_same:
                self.assertEqual(told, (("tell", 1), (0, 2), (member("f", 3, 4),), 3))
            else:
                self.assertEqual(told, (("tell", 2), (1, 2), (member("f", 4, 4),), 2))
        self.assertEqual(self.go("same 1 2 else 1", "tell 1"), (("home",), (1, 2), (), 1))

    def test_end(self):
        self.assertEqual(self.go("end", "tell 1"), (("home",), (1, 2), (), 1))
        core = Core(edition("routine f open", "call g it", "tell 1",
                            "routine g open", "same it 4 else 1", "end", "tell 2"), [])
        self.assertEqual(core.go((), core.enter("f", 0, 4)), (("tell", 1), (), (member("f", 2, None),)))
        self.assertEqual(core.count((), core.enter("f", 0, 4)), 4)
        self.assertEqual(core.go((), core.enter("f", 0, 5)),
                         (("tell", 2), (), (member("f", 1, None), member("g", 3, 5))))

    def test_back_from_a_wanted_name(self):
        for given in ((), ("w",), ("f", "x")):
            self.assertEqual(self.go("call w it", "tell 1", given=given),
                             (("back", "w", 4), (1, 2), (member("f", 1, None),), 1))
        self.assertEqual(self.go("set box.0 8", "call w box.0"),
                         (("back", "w", 8), (8, 2), (member("f", 2, None),), 2))

    def test_calls_of_members(self):
        members = ("routine g open at 1", "tell it", "routine g open at 2 default", "tell 22",
                   "routine g guarded at 3", "tell it")
        for call, tag in (("call g it at 1", 1), ("call g it", 2), ("call g it at 3", 3), ("call g it at 2", 2)):
            told = self.go(call, "tell 5", others=members)
            self.assertEqual(told, (("tell", 22 if tag == 2 else 4), (1, 2),
                                    (member("f", 1, None), member("g", 1, 4, tag)), 2))
            back = self.go(call, "tell 5", others=members, given=("g",))
            self.assertEqual(back, told if tag == 3 else (("back", "g", 4), (1, 2), (member("f", 1, None),), 1))

    def test_hidden_and_untagged_members(self):
        for access in ("open", "guarded", "hidden"):
            others = (f"routine g {access}", "tell it")
            inside = (("tell", 7), (1, 2), (member("f", 1, None), member("g", 1, 7)), 2)
            self.assertEqual(self.go("call g 7", others=others), inside)
            back = (("back", "g", 7), (1, 2), (member("f", 1, None),), 1)
            self.assertEqual(self.go("call g 7", others=others, given=("g", "f")), back if access == "open" else inside)

    def test_first_blocks(self):
        made = edition("cell box open 0", "wants w", "first a", "call w box.0", "set box.0 5",
                       "first b", "tell box.0", "call w 2")
        core = Core(made, ["w"])
        first, second = ("first", "a"), ("first", "b")
        values, frames = core.first_values, core.load()
        told = []
        while frames:
            event, values, frames = core.go(values, frames)
            told.append((event, values, frames))
        self.assertEqual(told, [
            (("back", "w", 0), (0,), ((second, 0, None), (first, 1, None))),
            (("tell", 5), (5,), ((second, 1, None),)),
            (("back", "w", 2), (5,), ((second, 2, None),)),
            (("home",), (5,), ())])
        self.assertEqual(core.go((0,), core.open_first("b")), (("tell", 0), (0,), ((second, 1, None),)))

    def test_no_frames(self):
        core = Core(edition("cell box open 3"), [])
        self.assertEqual(core.go((8,), ()), (("home",), (8,), ()))
        self.assertEqual(core.count((8,), ()), 0)

    def test_it_holds_no_state(self):
        core = Core(edition("cell box open 3", "routine f open", "set box.0 it", "tell box.0"), [])
        values, frames = (1,), core.enter("f", 0, 4)
        told = core.go(values=values, frames=frames)
        self.assertEqual(told, core.go(values, frames))
        self.assertEqual(told, (("tell", 4), (4,), (member("f", 2, 4),)))
        self.assertEqual((values, frames), ((1,), core.enter("f", 0, 4)))
        self.assertEqual(core.count(values=values, frames=frames), 2)
        self.assertEqual(core.first_values, (3,))


class Bounds(unittest.TestCase):
    def test_work_reached_exactly(self):
        made = edition("cell box open 0", "routine top open", *["call mid 1"] * 4, "routine mid hidden",
                       *["call low 1"] * 2, *["set box.0 1"] * 6, "routine low hidden",
                       *["same 1 1 else 1"] * 7, "set box.0 it")
        core = Core(made, [])
        self.assertEqual(made.work(made.members[0]), 100)
        self.assertEqual(core.count((0,), core.enter("top", 0, 1)), 100)
        self.assertEqual(core.go((0,), core.enter("top", 0, 1)), (("home",), (1,), ()))

    def test_two_first_blocks_of_full_work(self):
        made = edition("first a", *["call mid 1"] * 4, "first b", *["call mid 1"] * 4, "routine mid hidden",
                       *["call low 1"] * 2, *["same 1 1 else 1"] * 5, "end", "routine low hidden",
                       *["same 1 1 else 1"] * 7, "end")
        core = Core(made, [])
        self.assertEqual([made.work(first) for first in made.firsts], [100, 100])
        self.assertEqual(core.count((), core.load()), 200)
        self.assertEqual(core.go((), core.load()), (("home",), (), ()))
        self.assertEqual(core.count((), core.open_first("b")), 100)

    def test_random_editions(self):
        chance = random.Random(51)
        most = 0
        for _ in range(600):
            made = some_edition(chance, most_rows=8)
            core = Core(made, [name for name in ("f", "g", "w") if chance.randrange(2)])
            begun = [(core.enter(part.name, part.tag, chance.randrange(3)), [part]) for part in made.members]
            begun.append((core.load(), made.firsts))
            for frames, blocks in begun:
                values = tuple(chance.randrange(3) for _ in core.places)
                bound = sum(made.work(block) for block in blocks)
                while frames:
                    before = core.count(values, frames)
                    self.assertLessEqual(before, bound)
                    if len(blocks) == 2:
                        left = [block for block in blocks if any(frame[0][1] == block.name for frame in frames)]
                        self.assertLessEqual(before, sum(made.work(block) for block in left))
                    most = max(most, before)
                    event, values, frames = core.go(values, frames)
                    self.assertEqual(event[0] == "home", frames == ())
                    self.assertIsInstance(values, tuple)
                    self.assertTrue(all(frame[2] is None or isinstance(frame[2], int) for frame in frames))
        self.assertGreater(most, 10)


if __name__ == "__main__":
    unittest.main()
