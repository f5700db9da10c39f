"""Verdicts (7.1, 7.10 to 7.14), and what they promise of all clients (9.3, 9.6, 6.r3)."""

import random
import unittest

from quietedition.checking import is_clue, is_floor, is_table
from quietedition.editions import Edition
from quietedition.errors import BadMoment, TooMany
from quietedition.joint import Joint
from quietedition.manners import Manners
from quietedition.renaming import Renaming
from quietedition.runs import is_served, outcome
from quietedition.verdicts import clue_cost, judge
from quietedition.world import Moment, worlds
from tests.clients import Search, moves_by_words
from tests.making import changed, edition, some_client, some_edition
from tests.oracle import is_closed, is_closed_below, least_cost, manners_by_words
from tests.questions import ALL, NONE, NO_MOMENTS, question, questions

PUT = edition("cell box hidden 0", "routine put open", "set box.0 it",
              "routine ask open", "same box.0 5 else 1", "tell 1")
CLUE = ("game", (), (("load", ()), ("call", "put", 0, ("number", 5), ()), ("call", "ask", 0, ("number", 5), ())))


def replaced(made, *pairs):
    """The edition with words of its text replaced."""
    text = made.text()
    for old, new in pairs:
        text = text.replace(old, new)
    return Edition.read(text)


class Example(unittest.TestCase):
    def test_noticed(self):
        newer = replaced(PUT, ("5", "6"))
        for moment in Moment.ALL:
            verdict = judge(PUT, newer, moment, NONE)
            self.assertIs(verdict.is_quiet, False)
            self.assertEqual((verdict.cost, verdict.table), (2, []))
            kind, given, moves = verdict.clue
            self.assertEqual((kind, given, moves[:2]), ("game", (), CLUE[2][:2]))
            self.assertEqual(moves[2][:3] + moves[2][4:], ("call", "ask", 0, ()))
            self.assertTrue(is_clue(PUT, newer, moment, NONE, verdict.clue))
            self.assertTrue(is_floor(PUT, newer, moment, NONE, 2, verdict.floor))
            self.assertEqual([entry[:3] for entry in verdict.floor], [((), None, 0)])

    def test_attributes(self):
        newer = replaced(PUT, ("5", "6"))
        verdict = judge(elder=PUT, newer=newer, moment="linked", manners=ALL)
        self.assertEqual((verdict.elder, verdict.newer, verdict.moment, verdict.manners), (PUT, newer, "linked", ALL))
        self.assertIsInstance(verdict.floor, list)
        self.assertIsInstance(verdict.clue, tuple)

    def test_quiet_if_put_is_hidden(self):
        hidden = replaced(PUT, ("put open", "put hidden"))
        for moment in Moment.ALL:
            verdict = judge(hidden, replaced(hidden, ("5", "6")), moment, NONE)
            self.assertIs(verdict.is_quiet, True)
            self.assertEqual((verdict.cost, verdict.clue, verdict.floor), (None, None, []))
            self.assertEqual(verdict.table, [((), None, ((("new", 0), ("new", 0)),))])

    def test_given_sets_in_a_table(self):
        made = edition("cell box hidden 0", "routine f open", "set box.0 it", "routine g open", "call f 1")
        new, kept = (("new", 0), ("new", 0)), (("kept", 1), ("kept", 1))
        verdict = judge(made, made, "loaded", Manners.of("over"))
        self.assertEqual(verdict.table, [((), None, (kept, new)), (("f",), None, (new,)), (("f",), new, (new,))])
        self.assertEqual(judge(made, made, "loaded", NONE).table, [((), None, (kept, new))])

    def test_given_sets_in_a_floor(self):
        lines = ("routine f open", "end", "routine g open", "call f 1")
        elder, newer = edition(*lines, "routine t open", "tell 1"), edition(*lines, "routine t open", "tell 2")
        verdict = judge(elder, newer, "loaded", Manners.of("over"))
        self.assertEqual((verdict.cost, verdict.clue[1]), (1, ()))
        self.assertEqual([entry[:3] for entry in verdict.floor], [((), None, 0), (("f",), None, 0), (("f",), (), 2)])
        # Only a client that gives f notices here.
        back = edition("routine f open", "end", "routine g open", "call f 1")
        verdict = judge(back, replaced(back, ("call f 1", "call f 2")), "loaded", Manners.of("over"))
        self.assertEqual((verdict.cost, verdict.clue[1]), (1, ("f",)))
        self.assertTrue(judge(back, replaced(back, ("call f 1", "call f 2")), "loaded", NONE).is_quiet)

    def test_the_least_of_the_given_sets(self):
        """Beside a client that gives f the notice costs less than beside one that does not."""
        elder, newer = [edition("cell box hidden 0", "routine put open", "set box.0 it", "routine f open", "end",
                                "routine g open", f"call f {n}", f"same box.0 {n} else 1", "tell 1") for n in (5, 6)]
        self.assertEqual(judge(elder, newer, "loaded", NONE).cost, 2)
        verdict = judge(elder, newer, "loaded", Manners.of("over"))
        self.assertEqual((verdict.cost, verdict.clue[1]), (1, ("f",)))
        self.assertTrue(is_floor(elder, newer, "loaded", Manners.of("over"), 1, verdict.floor))

    def test_asked_twice(self):
        for newer in (replaced(PUT, ("5", "6")), PUT):
            one, two = judge(PUT, newer, "linked", ALL), judge(PUT, newer, "linked", ALL)
            self.assertEqual((one.table, one.cost, one.clue, one.floor), (two.table, two.cost, two.clue, two.floor))
            one.table.append(1)
            one.floor.clear()
            three = judge(PUT, newer, "linked", ALL)
            self.assertEqual((two.table, two.floor), (three.table, three.floor))


class AtOnce(unittest.TestCase):
    """Each case of 7.6 alone and two at once, at each moment."""

    def check(self, elder, newer, manners, clues):
        for moment, clue in zip(Moment.ALL, clues):
            verdict = judge(elder, newer, moment, manners)
            self.assertEqual((verdict.clue, verdict.floor), (clue, []))
            self.assertEqual((verdict.is_quiet, verdict.cost), (clue is None, None if clue is None else 0))
            self.assertEqual(verdict.table == [], clue is not None)

    def quiet(self, elder, newer, manners):
        return tuple(judge(elder, newer, moment, manners).is_quiet for moment in Moment.ALL)

    def test_wanted(self):
        self.check(edition("wants x"), edition("wants y", "wants x"), NONE, [("wanted", "y")] * 3)
        self.check(edition(), edition("wants y", "wants x"), NONE, [("wanted", "x")] * 3)

    def test_doors(self):
        elder = edition("routine b open at 3 default", "end", "routine c open", "end")
        self.check(elder, edition(), NONE, [("door", "b", 0)] * 3)
        untagged = edition("routine b open", "end", "routine c open", "end")
        self.check(elder, untagged, NONE, [None, None, ("door", "b", 0)])
        self.check(elder, untagged, Manners.of("tags"), [("door", "b", 3)] * 2 + [("door", "b", 0)])

    def test_numbers(self):
        elder, newer = edition("number b 1", "number a 2"), edition("number c 1")
        self.check(elder, newer, Manners.of("shows"), [("number", "a"), None, None])
        self.assertEqual(self.quiet(elder, newer, Manners.of("shows")), (False, True, True))
        self.assertEqual(self.quiet(elder, newer, ALL - Manners.of("shows")), (True, True, True))
        lines = ("routine f open", "end")
        self.assertEqual(self.quiet(edition("number a 2", *lines), edition(*lines), NONE), (False, True, True))
        lines = ("cell p open 0",)
        self.assertEqual(self.quiet(edition("number a 2", *lines), edition(*lines), NONE), (True, True, True))
        self.assertEqual(self.quiet(edition("number a 2", *lines), edition(*lines), Manners.of("straight")),
                         (False, True, True))

    def test_cells(self):
        one, two, straight = edition("cell p open 0"), edition("cell p open 0 0"), Manners.of("straight")
        for newer in (one, edition(), edition("cell p hidden 0 0")):
            self.check(two, newer, straight, [("cell", "p", 1)] * 3)
            self.assertEqual(self.quiet(two, newer, ALL - straight - Manners.of("within")), (True,) * 3)
        self.assertEqual(self.quiet(one, two, straight), (True, True, False))
        self.assertEqual(judge(one, two, "loaded", straight).clue, ("cell", "p", 0))

    def test_two_at_once(self):
        elder = edition("number a 2", "cell p open 0", "routine f open", "end")
        self.check(elder, edition("wants v"), ALL, [("wanted", "v")] * 3)
        self.check(elder, edition(), ALL, [("door", "f", 0)] * 3)
        without = edition("routine f open", "end")
        self.check(elder, without, ALL, [("number", "a"), ("cell", "p", 0), ("cell", "p", 0)])
        self.check(elder, without, NONE, [("number", "a"), None, None])


class Bounds(unittest.TestCase):
    def test_bad_moments_ahead_of_too_many(self):
        many = edition("routine f open", "tell 1", "tell 2", "tell 3", "tell 4")
        for thing in NO_MOMENTS:
            for elder, newer in ((PUT, PUT), (many, many), (many, edition("wants w"))):
                with self.assertRaises(BadMoment) as caught:
                    judge(elder, newer, thing, ALL)
                self.assertEqual(caught.exception.moment, thing)
                self.assertIs(type(caught.exception.moment), type(thing))

    def what(self, *arguments):
        try:
            judge(*arguments)
        except TooMany as error:
            return error.what
        return None

    def test_reached_and_passed(self):
        def telling(*numbers):
            return edition("routine f open", *[f"tell {n}" for n in numbers])
        self.assertIsNone(self.what(telling(1, 2), telling(2, 3), "loaded", ALL))
        self.assertEqual(self.what(telling(1, 2), telling(3, 4), "loaded", ALL), "numbers")
        unlike = edition("number a 1", "number b 2"), edition("number a 3", "number b 4")
        self.assertEqual([self.what(*unlike, moment, NONE) for moment in Moment.ALL], ["numbers", None, None])
        lines = ["routine a open", "end", "routine b open", "end", "routine c open", "end", "first f"]
        two, three = [edition(*lines, *[f"call {name} 1" for name in names]) for names in ("ab", "abc")]
        self.assertIsNone(self.what(two, two, "linked", ALL))
        self.assertEqual(self.what(three, three, "linked", ALL), "names")
        one, pair = edition("cell a hidden 0"), edition("cell a hidden 0 0")
        self.assertIsNone(self.what(one, one, "linked", ALL))
        self.assertEqual(self.what(one, pair, "linked", ALL), "places")
        self.assertIsNone(self.what(one, pair, "linked", ALL - Manners.of("within")))

    def test_two_at_once_and_where_something_is_noticed_at_once(self):
        lines = ["cell p open 0 0", "routine a open", "end", "routine b open", "end", "routine c open", "end", "first f"]
        names = edition(*lines, "call a 1", "call b 1", "call c 1")
        numbers = edition(*lines, "call a 1", "call b 2", "call c 3", "tell 4")
        wants = edition("wants w")
        for newer in (names, wants):
            self.assertEqual(self.what(numbers, newer, "loaded", ALL), "numbers")
            self.assertEqual(self.what(names, newer, "loaded", ALL), "names")
            self.assertEqual(self.what(edition("cell p open 0 0"),
                                       edition("cell p open 0", "wants w"), "loaded", ALL), "places")
        self.assertIsNone(self.what(names, wants, "loaded", NONE))

    def many(self, last, told):
        """To tell what is told costs 57 moves and `last` ones more."""
        return edition("wants w", "first go", *["call mid 1"] * 7, "call low 1", "routine mid hidden",
                       *["call w 1"] * 8, "routine low hidden", *["call w 1"] * last,
                       "routine tell open", f"tell {told}")

    def test_the_greatest_cost(self):
        elder, newer = self.many(3, 0), self.many(3, 1)
        verdict = judge(elder, newer, "loaded", NONE)
        self.assertEqual(verdict.cost, 60)
        self.assertTrue(is_clue(elder, newer, "loaded", NONE, verdict.clue))
        self.assertTrue(is_floor(elder, newer, "loaded", NONE, 60, verdict.floor))
        self.assertFalse(is_floor(elder, newer, "loaded", NONE, 61, verdict.floor))
        self.assertEqual(self.what(self.many(4, 0), self.many(4, 1), "loaded", NONE), "moves")
        self.assertEqual(self.what(self.many(8, 0), self.many(8, 1), "loaded", NONE), "moves")
        self.assertIsNone(self.what(self.many(8, 1), self.many(8, 1), "loaded", NONE))

    def test_noticed_at_once_ahead_of_moves(self):
        elder = self.many(4, 0)
        newer = replaced(self.many(4, 1), ("wants w", "wants w\nwants v"))
        self.assertEqual(judge(elder, newer, "loaded", NONE).clue, ("wanted", "v"))

    def test_moves_beside_a_lesser_cost(self):
        """A game with too great a cost does not count if another one has a lesser cost."""
        elder, newer = [replaced(self.many(4, n), ("first go", "first go\ncall tell 1"), ("call low 1\n", ""))
                        for n in (0, 1)]
        self.assertEqual(judge(elder, newer, "loaded", NONE).cost, 0)


class Costs(unittest.TestCase):
    def test_costs_of_clues(self):
        for clue in (("wanted", "w"), ("door", "f", 3), ("number", "a"), ("cell", "p", 1)):
            self.assertEqual(clue_cost(clue), 0)
        call, write = ("call", "f", 0, ("number", 1), ()), ("write", "p", 0, ("number", 1))
        for cost, moves in ((0, (("load", ()),)), (2, (("load", ()), call, write)), (0, (("load", ()), ("ask", "f"))),
                            (1, (("load", ()), call, ("look", "p", 0))), (1, (("load", (("w", ()),)),)),
                            (2, (("load", (("w", (write, ("show", "a"))),)),)),
                            (5, (("load", ()), ("call", "f", 0, ("number", 1), (("w", (write,)), ("v", (call,)))),))):
            self.assertEqual(clue_cost(("game", (), moves)), cost)
        self.assertEqual(clue_cost(clue=CLUE), 2)

    def test_many_homes_one_in_another(self):
        moves = (("look", "p", 0),)
        for _ in range(199):
            moves = (("call", "f", 0, ("number", 1), (("w", moves),)),)
        self.assertEqual(clue_cost(("game", ("w",), (("load", (("w", moves),)),))), 399)


class AgainstTheWords(unittest.TestCase):
    def test_games(self):
        """Table, cost, clue and floor against the slow search, and the checks of tables and floors."""
        chance = random.Random(111)
        seen = {}
        for elder, newer, moment, manners in questions(chance, 900):
            verdict = judge(elder, newer, moment, manners)
            seen[verdict.cost] = seen.get(verdict.cost, 0) + 1
            if verdict.clue is not None and verdict.clue[0] != "game":
                continue
            entries = verdict.table if verdict.is_quiet else verdict.floor
            self.assertEqual(entries, sorted(entries, key=lambda entry: (entry[0], entry[1] or ())))
            sets = sorted({entry[0] for entry in entries})
            joints = {given: Joint(elder, newer, moment, manners, given) for given in sets}
            costs = [least_cost(joint, 3) for joint in joints.values()]
            found = min([cost for cost in costs if cost is not None], default=None)
            self.assertEqual(found, verdict.cost if verdict.cost is not None and verdict.cost <= 3 else None)
            for given, joint in joints.items():
                own = [entry[1:] for entry in entries if entry[0] == given]
                if verdict.is_quiet:
                    self.assertTrue(is_closed(joint, own))
                else:
                    self.assertTrue(is_closed_below(joint, verdict.cost, own))
        self.assertGreater(min(seen[cost] for cost in (None, 0, 1, 2)), 10)

    def test_all_clients_of_few_moves(self):
        chance = random.Random(112)
        seen = {}
        clients = 0
        for elder, newer, moment, manners in questions(chance, 260, most_rows=3):
            verdict = judge(elder, newer, moment, manners)
            search = Search(elder, newer, moment, manners, range(4))
            most = 2 if len(search.moves) < 16 else 1
            found = search.go(most)
            clients += search.count
            if verdict.cost is not None and verdict.cost <= most:
                self.assertEqual(found, verdict.cost, (elder.text(), newer.text(), moment, str(manners)))
            elif found is not None:
                self.assertFalse(verdict.is_quiet)
                self.assertGreaterEqual(found, verdict.cost)
            seen[found] = seen.get(found, 0) + 1
        self.assertGreater(min(seen.get(cost, 0) for cost in (None, 0, 1)), 5)
        self.assertGreater(clients, 5000)

    def test_clients_by_chance(self):
        """None notices a quiet question, and none any other one after fewer moves than its cost."""
        chance = random.Random(113)
        count = {True: 0, False: 0}
        for elder, newer, moment, _ in questions(chance, 900):
            for _ in range(3):
                client = some_client(chance, elder, newer)
                if not is_served(client, elder):
                    continue
                manners = manners_by_words(client, elder, newer)
                try:
                    verdict = judge(elder, newer, moment, manners)
                except TooMany:
                    continue
                one, two = [outcome(client, world, limit=60) for world in worlds(elder, newer, moment)]
                if verdict.is_quiet:
                    self.assertEqual(one, two)
                elif one != two:
                    self.assertGreaterEqual(moves_by_words(client, elder, newer, moment, limit=60), verdict.cost)
                count[one == two] += 1
        self.assertGreater(min(count.values()), 100)


class Promises(unittest.TestCase):
    def test_more_manners_let_more_clients_in(self):
        chance = random.Random(114)
        for elder, newer, moment, manners in questions(chance, 500):
            more = manners | Manners([chance.choice(Manners.ALL)])
            one, two = [question(elder, newer, moment, part) for part in (manners, more)]
            if one is None or two is None:
                continue
            if two.is_quiet:
                self.assertTrue(one.is_quiet)
            elif not one.is_quiet:
                self.assertLessEqual(two.cost, one.cost)

    def test_moments(self):
        chance = random.Random(115)
        for elder, newer, _, manners in questions(chance, 500):
            told = [question(elder, newer, moment, manners) for moment in Moment.ALL]
            if None in told:
                continue
            assembled, linked, loaded = told
            self.assertTrue(linked.is_quiet or not assembled.is_quiet)
            if "tags" in manners and "straight" not in manners:
                self.assertTrue(loaded.is_quiet or not linked.is_quiet)
            if all(newer.numbers.get(name) == n for name, n in elder.numbers.items()):
                self.assertEqual(assembled.cost, linked.cost)

    def test_renamed(self):
        chance = random.Random(116)
        for elder, newer, moment, manners in questions(chance, 400):
            renaming = Renaming(list(zip(range(-3, 5), chance.sample(range(-3, 5), 8))))
            one = judge(elder, newer, moment, manners)
            two = judge(renaming.of_edition(elder), renaming.of_edition(newer), moment, manners)
            self.assertEqual((one.is_quiet, one.cost), (two.is_quiet, two.cost))

            def renamed(entries):
                return entries and tuple((kind, renaming(n) if kind == "kept" else n) for kind, n in entries)
            table = [(given, renamed(base), tuple(sorted(renamed(state) for state in states)))
                     for given, base, states in one.table]
            self.assertEqual(sorted(table, key=lambda entry: (entry[0], entry[1] or ())), two.table)

    def test_other_names_and_only_written_otherwise(self):
        """The names of the edition, its cells and its first blocks mean nothing, nor does a row that changes nothing."""
        elder = edition("number n 2", "cell box hidden 0", "wants w", "first go", "call w #n", "routine put open",
                        "set box.0 it", "call in 1", "routine in hidden", "same box.0 1 else 1", "tell 1")
        newer = replaced(elder, ("edition e", "edition f"), ("box", "can"), ("first go", "first gone"), ("#n", "2"),
                         ("set can.0 it", "set can.0 can.0\nset can.0 it"), (" in 1", " inner 1"), (" in h", " inner h"))
        for moment in Moment.ALL:
            verdict = judge(elder, newer, moment, ALL)
            self.assertTrue(verdict.is_quiet)
            self.assertTrue(is_table(elder, newer, moment, ALL, verdict.table))
            self.assertEqual(verdict.table, judge(elder, elder, moment, ALL).table)


if __name__ == "__main__":
    unittest.main()
