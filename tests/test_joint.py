"""The joint game (7.7, 7.8)."""

import random
import unittest

from quietedition.core import Core
from quietedition.doors import at_once, doors, given_sets
from quietedition.errors import BadMoment
from quietedition.joint import Joint
from quietedition.manners import Manners
from quietedition.patterns import choices, pattern
from quietedition.renaming import Renaming
from quietedition.world import Moment
from tests.making import changed, edition, some_edition

NONE = Manners.of()
ALL = Manners(Manners.ALL)


def member(name, row, argument, tag=0):
    return (("routine", name, tag), row, argument)


class Fields(unittest.TestCase):
    def test_fields(self):
        elder = edition("number k 8", "cell p open 1 2", "routine f open", "tell 7")
        newer = edition("number k 9", "cell q hidden 4", "cell p open 3", "routine f open", "tell -7")
        joint = Joint(elder=elder, newer=newer, moment="loaded", manners=NONE, given=())
        self.assertEqual(joint.kept, [-7, 7])
        self.assertEqual(joint.first_values, (1, 2, 4, 3))
        self.assertEqual(Joint(elder, newer, "assembled", NONE, []).kept, [-7, 7, 8, 9])
        self.assertEqual(Joint(edition(), edition(), "linked", ALL, ()).first_values, ())

    def test_no_moment(self):
        for thing in (None, 0, True, "", "Loaded", ["loaded"], ("linked",), "load"):
            with self.assertRaises(BadMoment) as caught:
                Joint(edition(), edition(), thing, NONE, ())
            self.assertEqual(caught.exception.moment, thing)

    def test_load(self):
        elder = edition("cell p hidden 1", "first b after a", "end", "first a", "end")
        newer = edition("cell p hidden 2", "first c", "end")
        a, b, c = [(("first", name), 0, None) for name in "abc"]
        self.assertEqual(Joint(elder, newer, "loaded", NONE, ()).load(), ((1, 2), (b, a), (c,)))


class Moves(unittest.TestCase):
    ELDER = edition("cell q hidden 0", "cell p open 0", "routine g open at 3 default", "end",
                    "routine f guarded", "tell 5", "end")

    def test_calls(self):
        values = (4, 9, 9, 5)
        joint = Joint(self.ELDER, self.ELDER, "loaded", NONE, ())
        numbers = [("number", n) for n in (5, 4, 9, 0)]
        wanted = [("call", name, 0, value) for name in ("f", "g") for value in numbers]
        self.assertEqual(joint.moves(values, True), wanted)
        self.assertEqual(joint.moves(values, False), [])
        within = Joint(self.ELDER, self.ELDER, "linked", Manners.of("within", "shows", "asks", "over", "free"), ())
        self.assertEqual(within.moves(values=values, is_top=True), wanted)
        self.assertEqual(within.moves(values=values, is_top=False), wanted)
        given = Joint(self.ELDER, self.ELDER, "assembled", NONE, ["f"])
        self.assertEqual(given.moves(values, True), wanted[4:])
        tags = Joint(self.ELDER, self.ELDER, "loaded", Manners.of("tags"), ())
        self.assertEqual([move[:3] for move in tags.moves(values, True)],
                         [("call", "f", 0)] * 4 + [("call", "g", 0)] * 4 + [("call", "g", 3)] * 4)

    def test_writes(self):
        elder = edition("cell q open 0", "cell p open 0", "routine f open", "end")
        newer = edition("cell p open 0", "cell q open 0", "routine f open", "end")
        joint = Joint(elder, newer, "linked", Manners.of("straight"), ())
        numbers = [("number", 6), ("number", 0)]
        writes = [("write", cell, 0, value) for cell in "qp" for value in numbers]
        calls = [("call", "f", 0, value) for value in numbers]
        self.assertEqual(joint.moves((6, 6, 6, 6), True), calls + writes)
        self.assertEqual(joint.moves((6, 6, 6, 6), False), writes)
        hidden = edition("cell q hidden 0", "cell p open 0", "routine f open", "end")
        joint = Joint(hidden, newer, "linked", Manners.of("straight", "within"), ())
        wanted = calls + [("write", "p", 0, value) for value in numbers]
        self.assertEqual(joint.moves((6, 6, 6, 6), False), wanted)
        two = edition("cell p open 0 0")
        joint = Joint(two, two, "loaded", Manners.of("straight"), ())
        self.assertEqual([move[1:3] for move in joint.moves((6, 6, 6, 6), False)], [("p", 0)] * 2 + [("p", 1)] * 2)

    def test_unlike_numbers(self):
        elder = edition("number z 1", "number b 2", "number a 3", "cell p open 0", "routine f open", "end")
        newer = edition("number a 4", "number b 2", "number z 3", "cell p open 0", "routine f open", "end")
        straight = Manners.of("straight")
        passed = [("number", n) for n in (1, 3, 4, 0, 2)] + [("named", "a"), ("named", "z")]
        joint = Joint(elder, newer, "assembled", straight, ())
        self.assertEqual(joint.moves((0, 0), True), [("call", "f", 0, value) for value in passed]
                         + [("write", "p", 0, value) for value in passed])
        for moment in ("linked", "loaded"):
            self.assertEqual(len(Joint(elder, newer, moment, straight, ()).moves((0, 0), True)), 4)

    def test_begin(self):
        elder = edition("number a 3", "cell q hidden 0", "cell p open 0", "routine f open", "end")
        newer = edition("number a 4", "cell p open 0 0", "routine f open at 2 default", "end")
        joint = Joint(elder, newer, "assembled", Manners.of("straight"), ())
        values = (10, 11, 12, 13)
        self.assertEqual(joint.begin(values, ("call", "f", 0, ("number", 77))),
                         (values, (member("f", 0, 77),), (member("f", 0, 77, 2),)))
        self.assertEqual(joint.begin(values=values, move=("call", "f", 0, ("named", "a"))),
                         (values, (member("f", 0, 3),), (member("f", 0, 4, 2),)))
        self.assertEqual(joint.begin(values, ("write", "p", 0, ("number", -5))), ((10, -5, -5, 13), (), ()))
        self.assertEqual(joint.begin(values, ("write", "p", 0, ("named", "a"))), ((10, 3, 4, 13), (), ()))
        self.assertEqual(joint.go(*joint.begin(values, ("write", "p", 0, ("number", 1)))),
                         (("home",), (10, 1, 1, 13), (), ()))

    def test_doors_of_each_moment(self):
        elder = edition("routine f open at 1", "end", "routine f open at 2 default", "end")
        newer = edition("routine f open at 1 default", "end", "routine f open at 2", "end")
        for moment, second in (("assembled", 1), ("linked", 1), ("loaded", 2)):
            joint = Joint(elder, newer, moment, NONE, ())
            self.assertEqual(joint.begin((), ("call", "f", 0, ("number", 1)))[1:],
                             ((member("f", 0, 1, 2),), (member("f", 0, 1, second),)))
            joint = Joint(elder, newer, moment, Manners.of("tags"), ())
            for tag in (1, 2):
                self.assertEqual(joint.begin((), ("call", "f", tag, ("number", 1)))[1:],
                                 ((member("f", 0, 1, tag),),) * 2)


class Go(unittest.TestCase):
    def go(self, elder, newer, given=("w",)):
        """What the member f of each edition comes to, with the argument 4."""
        one = edition("cell p hidden 1", "wants w", "wants v", "routine f open", *elder)
        two = edition("cell p hidden 2", "wants v", "wants w", "routine f open", *newer)
        joint = Joint(one, two, "loaded", NONE, given)
        return joint.go(*joint.begin((1, 2), ("call", "f", 0, ("number", 4))))

    def test_alike(self):
        self.assertEqual(self.go(["end"], ["set p.0 it"]), (("home",), (1, 4), (), ()))
        self.assertEqual(self.go(["tell 5", "tell it"], ["same 1 2 else 1", "tell 1", "tell 5", "tell 4"]),
                         (("home",), (1, 2), (), ()))
        self.assertEqual(self.go(["tell 5", "call w it", "end"], ["tell 5", "set p.0 7", "call w 4"]),
                         (("back", "w", 4), (1, 7), (member("f", 2, None),), (member("f", 3, None),)))

    def test_unlike(self):
        home, tell, back = ("home",), ("tell", 4), ("back", "w", 4)
        rows = {home: ["end"], tell: ["tell it"], back: ["call w it"], ("tell", 5): ["tell 5"],
                ("back", "w", 5): ["call w 5"], ("back", "v", 4): ["call v 4"]}
        for one, first in rows.items():
            for two, second in rows.items():
                event = self.go(["tell 1"] + first, ["tell 1"] + second)[0]
                if one != two:
                    self.assertEqual(event, ("unlike", one, two))
                else:
                    self.assertEqual(event, ("home",) if one[0] == "tell" else one)

    def test_values_and_frames_of_unlike_events(self):
        self.assertEqual(self.go(["set p.0 8", "tell 1"], ["call w 2"]),
                         (("unlike", ("tell", 1), ("back", "w", 2)), (8, 2), (member("f", 2, 4),),
                          (member("f", 1, None),)))

    def test_calls_back_that_nest(self):
        made = edition("cell p hidden 0", "wants w", "routine f open", "tell it", "call g it", "tell 6",
                       "routine g guarded", "set p.0 it", "call w p.0", "tell p.0")
        joint = Joint(made, made, "loaded", ALL, ("w",))
        first = joint.go(*joint.begin((0, 0), ("call", "f", 0, ("number", 4))))
        waiting = (member("f", 2, None), member("g", 2, None))
        self.assertEqual(first, (("back", "w", 4), (4, 4), waiting, waiting))
        inner = joint.go(*joint.begin((4, 4), ("call", "f", 0, ("number", 3))))
        self.assertEqual(inner, (("back", "w", 3), (3, 3), waiting, waiting))
        self.assertEqual(joint.go((5, 5), waiting, waiting), (("home",), (5, 5), (), ()))
        self.assertEqual(joint.go(values=(5, 6), frames=waiting, others=waiting)[0],
                         ("unlike", ("tell", 5), ("tell", 6)))

    def test_given_names(self):
        lines = ("routine f open", "call g 2", "routine g open", "tell 9")
        joint = Joint(edition(*lines), edition(*lines), "loaded", ALL, ("g",))
        self.assertEqual(joint.go(*joint.begin((), ("call", "f", 0, ("number", 4))))[0], ("back", "g", 2))
        joint = Joint(edition(*lines), edition(*lines), "loaded", ALL, ())
        self.assertEqual(joint.go(*joint.begin((), ("call", "f", 0, ("number", 4))))[0], ("home",))

    def test_as_both_cores(self):
        chance = random.Random(94)
        kinds = set()
        for _ in range(400):
            elder = some_edition(chance, most_rows=5)
            newer = changed(chance, elder)
            if at_once(elder, newer, "loaded", NONE) is not None:
                continue
            given = given_sets(elder, newer, NONE)[0]
            joint = Joint(elder, newer, "loaded", NONE, given)
            cores = [Core(elder, given), Core(newer, given)]
            sides = [[cores[0].first_values, cores[0].load()], [cores[1].first_values, cores[1].load()]]
            told = (None,) + joint.load()
            while True:
                event = joint.go(*told[1:])
                pair = [("tell", 0), ("tell", 0)]
                while pair[0] == pair[1] and pair[0][0] == "tell":
                    gone = [core.go(*side) for core, side in zip(cores, sides)]
                    pair = [one[0] for one in gone]
                    sides = [list(one[1:]) for one in gone]
                wanted = pair[0] if pair[0] == pair[1] else ("unlike",) + tuple(pair)
                self.assertEqual(event, (wanted, sides[0][0] + sides[1][0], sides[0][1], sides[1][1]))
                kinds.add(wanted[0])
                told = event
                if wanted[0] != "back":
                    break
        self.assertEqual(kinds, {"home", "back", "unlike"})


class Looks(unittest.TestCase):
    ELDER = edition("number z 1", "number y 1", "cell q open 0", "cell p open 0", "routine b open", "end",
                    "routine c open", "end", "routine e hidden", "end")
    NEWER = edition("number y 2", "number z 3", "cell p open 0", "cell q open 0", "routine a open", "end",
                    "routine c open", "end", "routine e open at 2", "end")

    def look(self, values, names, moment="assembled", given=("b",)):
        return Joint(self.ELDER, self.NEWER, moment, Manners(names), given).look(values)

    def test_places(self):
        for values, place in (((1, 2, 2, 1), None), ((1, 2, 3, 1), "p"), ((1, 2, 2, 3), "q"), ((1, 2, 3, 4), "q")):
            wanted = place and ("look", place, 0)
            self.assertEqual(self.look(values, ["straight"]), wanted)
            self.assertEqual(self.look(values, ["straight"], "loaded"), wanted)
            self.assertIsNone(self.look(values, ["tags", "within"]))
        hidden = edition("cell q hidden 0", "cell p open 0")
        newer = edition("cell q open 0", "cell p open 0")
        joint = Joint(hidden, newer, "linked", Manners.of("straight"), ())
        self.assertIsNone(joint.look((1, 2, 3, 2)))
        self.assertEqual(joint.look(values=(1, 2, 1, 3)), ("look", "p", 0))
        more = edition("cell p open 0 0")
        joint = Joint(edition("cell p open 0"), more, "linked", Manners.of("straight"), ())
        self.assertEqual([joint.look((4, 4, 5)), joint.look((4, 5, 4))], [None, ("look", "p", 0)])
        joint = Joint(more, more, "linked", Manners.of("straight"), ())
        self.assertEqual([joint.look((4, 5, 4, 6)), joint.look((4, 5, 6, 7))], [("look", "p", 1), ("look", "p", 0)])

    def test_asked(self):
        self.assertEqual(self.look((1, 1, 1, 1), ["asks"]), ("ask", "a"))
        self.assertEqual(self.look((1, 1, 1, 1), ["asks"], "loaded", ()), ("ask", "a"))
        self.assertEqual(self.look((1, 1, 1, 1), ["asks"], "loaded", ("a", "b")), ("ask", "e"))
        self.assertEqual(self.look((1, 1, 1, 1), ["asks"], "loaded", ("a", "e")), ("ask", "b"))
        self.assertIsNone(self.look((1, 1, 1, 1), ["asks"], "linked", ("a", "b", "e")))
        self.assertIsNone(self.look((1, 1, 1, 1), ["free", "over"]))

    def test_shown(self):
        self.assertEqual(self.look((1, 1, 1, 1), ["shows"]), ("show", "y"))
        self.assertIsNone(self.look((1, 1, 1, 1), ["shows"], "linked"))
        self.assertIsNone(self.look((1, 1, 1, 1), ["shows"], "loaded"))

    def test_their_order(self):
        names = ["straight", "asks", "shows"]
        self.assertEqual(self.look((1, 2, 2, 2), names), ("look", "q", 0))
        self.assertEqual(self.look((1, 2, 2, 1), names), ("ask", "a"))
        self.assertEqual(self.look((1, 2, 2, 1), names, "assembled", ("a", "b", "e")), ("show", "y"))


class Renamed(unittest.TestCase):
    def test_steps_go_with_a_renaming_that_keeps_the_kept_numbers(self):
        """What can happen depends only on the pattern of the joint values."""
        chance = random.Random(95)
        count = 0
        for _ in range(300):
            elder = some_edition(chance, most_rows=5)
            newer = changed(chance, elder)
            moment = chance.choice(Moment.ALL)
            manners = Manners([name for name in Manners.ALL if chance.randrange(2)])
            if at_once(elder, newer, moment, manners) is not None:
                continue
            joint = Joint(elder, newer, moment, manners, given_sets(elder, newer, manners)[0])
            others = [n for n in range(9) if n not in joint.kept]
            renaming = Renaming(list(zip(others, chance.sample(others, len(others)))))
            values = tuple(chance.randrange(9) for _ in joint.first_values)
            moved = tuple(renaming(n) for n in values)
            self.assertEqual(joint.look(values), joint.look(moved))
            moves = list(zip(joint.moves(values, True), joint.moves(moved, True)))
            for one, two in moves:
                count += 1
                self.assertEqual(one[:3], two[:3])
                first = joint.go(*joint.begin(values, one))
                second = joint.go(*joint.begin(moved, two))
                self.assertEqual(first[0][0], second[0][0])
                if first[0][0] != "unlike":
                    self.assertEqual(first[2:], second[2:])
                    self.assertEqual(pattern(first[1], joint.kept), pattern(second[1], joint.kept))
            doors_told = doors(elder, newer, moment, manners, given_sets(elder, newer, manners)[0])
            calls = [move for move, _ in moves if move[0] == "call" and move[3][0] == "number"]
            self.assertEqual(len(calls), len(doors_told) * len(choices(values, joint.kept)))
        self.assertGreater(count, 500)


if __name__ == "__main__":
    unittest.main()
