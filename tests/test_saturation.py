"""All that can be reached in one game (7.8, 7.9, 7.12, 7.13)."""

import random
import unittest

from quietedition.doors import at_once, check_bounds, given_sets
from quietedition.editions import Edition
from quietedition.errors import TooMany
from quietedition.joint import Joint
from quietedition.manners import Manners
from quietedition.patterns import is_pattern
from quietedition.renaming import Renaming
from quietedition.runs import is_served, outcome
from quietedition.saturation import Saturation
from quietedition.world import Moment, worlds
from tests.clients import moves_by_words
from tests.making import changed, edition, some_client, some_edition
from tests.oracle import Replay, Writer, is_closed, is_closed_below, least_cost, manners_by_words

NONE = Manners.of()


def put_ask(number, access="open"):
    """The example behind 7.14."""
    return edition("cell box hidden 0", f"routine put {access}", "set box.0 it",
                   "routine ask open", f"same box.0 {number} else 1", "tell 1")


def games(chance, count, most_rows=5):
    """Questions by chance at which nobody notices at once, with one given set of each."""
    while count > 0:
        elder = some_edition(chance, most_rows=most_rows)
        newer = changed(chance, elder)
        manners = Manners([name for name in Manners.ALL if chance.randrange(2)])
        moment = chance.choice(Moment.ALL)
        try:
            check_bounds(elder, newer, moment, manners)
        except TooMany:
            continue
        if at_once(elder, newer, moment, manners) is None:
            given = chance.choice(given_sets(elder, newer, manners))
            yield elder, newer, moment, manners, given
            count -= 1


class Quiet(unittest.TestCase):
    def entries(self, *question):
        made = Saturation(Joint(*question))
        self.assertEqual((made.cost, made.moves), (None, None))
        return made.entries()

    def test_the_example_if_put_is_hidden(self):
        self.assertEqual(self.entries(put_ask(5, "hidden"), put_ask(6, "hidden"), "loaded", NONE, ()), [
            (None, ((("new", 0), ("new", 0)),))])

    def test_no_places(self):
        self.assertEqual(self.entries(edition(), edition(), "linked", NONE, ()), [(None, ((),))])

    def test_states_of_the_top_level(self):
        made = edition("cell box hidden 0", "routine put open", "set box.0 it", "routine one hidden", "tell 4")
        self.assertEqual(self.entries(made, made, "assembled", NONE, ()), [
            (None, ((("kept", 4), ("kept", 4)), (("new", 0), ("new", 0))))])

    def test_unlike_values_that_nobody_sees(self):
        elder = edition("cell box hidden 0", "routine put open", "set box.0 it")
        newer = edition("cell box hidden 1", "routine put open", "end")
        self.assertEqual(self.entries(elder, newer, "loaded", NONE, ()), [
            (None, ((("new", 0), ("new", 0)), (("new", 0), ("new", 1))))])

    def test_call_backs(self):
        made = edition("cell box hidden 0", "wants w", "first one", "set box.0 3", "call w 1",
                       "routine put open", "call w it", "set box.0 3")
        kept, new = ("kept", 3), ("new", 0)
        self.assertEqual(self.entries(made, made, "loaded", NONE, ("w",)), [
            (None, ((kept, kept),)), ((kept, kept), ((kept, kept),))])
        without = edition("cell box hidden 0", "wants w", "routine put open", "call w it", "set box.0 3", "end")
        self.assertEqual(self.entries(without, without, "loaded", NONE, ("w",)), [
            (None, ((kept, kept), (new, new))), ((kept, kept), ((kept, kept),)), ((new, new), ((new, new),))])

    def test_call_backs_with_moves(self):
        made = edition("cell box open 0", "wants w", "routine put open", "call w it")
        new = (("new", 0), ("new", 0))
        self.assertEqual(self.entries(made, made, "loaded", Manners.of("straight"), ("w",)), [
            (None, (new,)), (new, (new,))])
        kept = (("kept", 7), ("kept", 7))
        writing = edition("cell box hidden 0", "wants w", "routine put open", "call w it", "routine reset open",
                          "set box.0 7")
        self.assertEqual(self.entries(writing, writing, "loaded", Manners.of("within"), ("w",)), [
            (None, (kept, new)), (kept, (kept,)), (new, (kept, new))])
        self.assertEqual(self.entries(writing, writing, "loaded", NONE, ("w",)), [
            (None, (kept, new)), (kept, (kept,)), (new, (new,))])

    def test_states_that_only_a_call_back_leads_to(self):
        """The top level has what a run leaves behind that goes on from each state of its call back."""
        made = edition("cell box hidden 0", "wants w", "routine deep guarded", "call w 1",
                       "routine mark open", "same box.0 7 else 1", "end", "set box.0 8", "first go", "set box.0 7")
        kept = {n: (("kept", n), ("kept", n)) for n in (7, 8)}
        entries = self.entries(made, made, "loaded", Manners.of("within"), ("w",))
        self.assertEqual(entries[0], (None, (kept[7],)))
        self.assertEqual([base for base, _ in entries], [None, kept[7]])

    def test_a_floor_of_a_quiet_game(self):
        made = edition("cell box hidden 0", "wants w", "routine put open", "set box.0 it", "call w 3", "set box.0 3")
        game = Saturation(Joint(made, made, "loaded", NONE, ("w",)))
        kept, new = (("kept", 3), ("kept", 3)), (("new", 0), ("new", 0))
        self.assertEqual(game.floor(60), [
            (None, 0, ((kept, 2), (new, 0))), (kept, 2, ((kept, 0),)), (new, 2, ((new, 0),))])
        # What costs as much as the limit is left out, but for the beginnings of calls back.
        self.assertEqual(game.floor(2), [
            (None, 0, ((new, 0),)), (kept, 2, ((kept, 0),)), (new, 2, ((new, 0),))])
        writing = edition("cell box hidden 0", "wants w", "routine put open", "set box.0 3", "routine back open",
                          "call w 1")
        game = Saturation(Joint(writing, writing, "loaded", Manners.of("within"), ("w",)))
        self.assertEqual(game.floor(4), [
            (None, 0, ((kept, 1), (new, 0))), (kept, 3, ((kept, 0),)), (new, 2, ((kept, 1), (new, 0)))])
        self.assertEqual(game.floor(3)[1:], [(kept, 3, ((kept, 0),)), (new, 2, ((new, 0),))])

    def test_lists_are_new(self):
        made = Saturation(Joint(edition(), edition(), "linked", NONE, ()))
        made.entries().clear()
        self.assertEqual(made.entries(), [(None, ((),))])
        made.floor(3).clear()
        self.assertEqual(made.floor(3), [(None, 0, (((), 0),))])


class Noticed(unittest.TestCase):
    def test_the_example(self):
        for moment in Moment.ALL:
            made = Saturation(joint=Joint(put_ask(5), put_ask(6), moment, NONE, ()))
            self.assertEqual(made.cost, 2)
            self.assertEqual(made.entries(), [])
            self.assertEqual(made.moves[:2], (("load", ()), ("call", "put", 0, ("number", 5), ())))
            self.assertEqual(made.moves[2][:3] + made.moves[2][4:], ("call", "ask", 0, ()))
            self.assertEqual(len(made.moves), 3)
            for limit in range(3):
                self.assertTrue(is_closed_below(made.joint, limit, made.floor(limit)))

    def test_the_loading(self):
        made = Saturation(Joint(edition("first one", "tell 1"), edition("first one", "tell 2"), "loaded", NONE, ()))
        self.assertEqual((made.cost, made.moves), (0, (("load", ()),)))
        self.assertEqual(made.floor(0)[0][:2], (None, 0))

    def test_a_call_back_at_the_loading(self):
        elder = edition("wants w", "first one", "call w 1", "tell 1")
        newer = edition("wants w", "first one", "call w 1", "tell 2")
        made = Saturation(Joint(elder, newer, "loaded", NONE, ("w",)))
        self.assertEqual((made.cost, made.moves), (1, (("load", (("w", ()),)),)))

    def test_looks(self):
        elder = edition("cell box open 0", "routine f open", "set box.0 it", "end")
        newer = edition("cell box open 1", "routine f open", "end", "routine g open", "end")
        joint = Joint(elder, newer, "loaded", Manners.of("straight"), ())
        self.assertEqual(Saturation(joint).moves, (("load", ()), ("look", "box", 0)))
        equal = edition("cell box open 0", "routine f open", "end", "routine g open", "end")
        made = Saturation(Joint(elder, equal, "loaded", Manners.of("straight"), ()))
        self.assertEqual(made.cost, 1)
        self.assertEqual(made.moves[1][:3] + made.moves[1][4:], ("call", "f", 0, ()))
        self.assertNotEqual(made.moves[1][3], ("number", 0))
        self.assertEqual(made.moves[2:], (("look", "box", 0),))
        made = Saturation(Joint(elder, equal, "loaded", Manners.of("asks"), ()))
        self.assertEqual((made.cost, made.moves), (0, (("load", ()), ("ask", "g"))))

    def test_a_look_in_a_call_back(self):
        elder = edition("cell box open 0", "wants w", "routine f open", "set box.0 1", "call w 2", "set box.0 0")
        newer = edition("cell box open 0", "wants w", "routine f open", "set box.0 2", "call w 2", "set box.0 0")
        made = Saturation(Joint(elder, newer, "linked", Manners.of("straight"), ("w",)))
        self.assertEqual(made.cost, 2)
        self.assertEqual(made.moves[1][4], (("w", (("look", "box", 0),)),))
        self.assertIsNone(Saturation(Joint(elder, newer, "linked", NONE, ("w",))).cost)

    def test_the_unlike_number(self):
        elder = edition("number most 1", "cell box hidden 0", "routine f open", "same it 1 else 1", "tell 9")
        newer = edition("number most 2", "cell box hidden 0", "routine f open", "same it 2 else 1", "tell 9", "end")
        self.assertEqual(Saturation(Joint(elder, newer, "loaded", NONE, ())).cost, 1)
        same = edition("number most 2", "cell box hidden 0", "routine f open", "same it 1 else 1", "tell 9")
        made = Saturation(Joint(elder, same, "assembled", NONE, ()))
        self.assertEqual((made.cost, made.moves), (1, (("load", ()), ("call", "f", 0, ("named", "most"), ()))))
        self.assertIsNone(Saturation(Joint(elder, same, "linked", NONE, ())).cost)

    def test_deep_calls_back(self):
        """The notice needs three calls back that are open at the same time."""
        def deep(number):
            return edition("cell box hidden 0", "wants w", "routine f open", "same box.0 2 else 1", f"tell {number}",
                           "same box.0 1 else 1", "set box.0 2", "same box.0 0 else 1", "set box.0 1", "call g it",
                           "routine g hidden", "call w it", "set box.0 0")
        made = Saturation(Joint(deep(0), deep(1), "loaded", Manners.of("within"), ("w",)))
        self.assertEqual(made.cost, 5)
        (_, homes), = [(move[1], move[4]) for move in made.moves[1:]]
        self.assertEqual(homes[0][1][0][4][0][1][0][:2], ("call", "f"))
        self.assertIsNone(Saturation(Joint(deep(0), deep(1), "loaded", NONE, ("w",))).cost)

    def test_a_write_in_a_call_back(self):
        elder, newer = [edition("cell box open 0", "wants w", "routine f open", "set box.0 0", "call w 1",
                                "same box.0 5 else 1", f"tell {n}", "set box.0 0") for n in (0, 5)]
        made = Saturation(Joint(elder, newer, "linked", Manners.of("straight"), ("w",)))
        self.assertEqual(made.cost, 3)
        self.assertEqual(made.moves[1][:3] + made.moves[1][4:],
                         ("call", "f", 0, (("w", (("write", "box", 0, ("number", 5)),)),)))

    # It goes from another integer to 0, 1, 2 and back to 0.
    UP = ("routine up open", "same box.0 1 else 2", "set box.0 2", "end", "same box.0 0 else 2", "set box.0 1", "end",
          "set box.0 0")

    def test_a_lesser_notice_that_is_found_later(self):
        elder, newer = [edition("cell box hidden 9", "wants w", "routine f open", "call w 1", "call w 1",
                                "same box.0 1 else 1", f"tell {n}", "routine ask open", "same box.0 2 else 1",
                                f"tell {n}", *self.UP) for n in (0, 1)]
        made = Saturation(Joint(elder, newer, "linked", Manners.of("within"), ("w",)))
        self.assertEqual(made.cost, 4)
        self.assertEqual([move[1] for move in made.moves[1:]], ["up", "up", "up", "ask"])
        no_ask = [Edition.read(part.text().replace("routine ask open", "routine ask hidden"))
                  for part in (elder, newer)]
        self.assertEqual(Saturation(Joint(*no_ask, "linked", Manners.of("within"), ("w",))).cost, 5)

    def test_the_nearest_way_to_a_call_back(self):
        """The call back in which the notice comes is reached from the loading with fewer moves than from the top."""
        elder, newer = [edition("cell box hidden 9", "wants w", "first one", "set box.0 0", "call w 1", "set box.0 1",
                                "routine g open", "same box.0 0 else 3", "set box.0 2", "call w 1", "set box.0 1",
                                "routine back open", "set box.0 0", "routine ask open", "same box.0 2 else 1",
                                f"tell {n}") for n in (0, 1)]
        made = Saturation(Joint(elder, newer, "loaded", Manners.of("within"), ("w",)))
        self.assertEqual(made.cost, 4)
        self.assertEqual(len(made.moves), 1)
        self.assertEqual(made.moves[0][1][0][1][0][:2], ("call", "g"))

    def test_moves_that_count(self):
        rows = [row for n in (0, 1) for row in (f"same box.0 {n} else 2", f"set box.0 {n + 1}", "end")]
        elder, newer = [edition("cell box hidden 0", "routine up open", *rows, "set box.0 0", f"tell {n}")
                        for n in (0, 1)]
        made = Saturation(Joint(elder, newer, "loaded", NONE, ()))
        self.assertEqual(made.cost, 3)
        self.assertEqual([move[:3] for move in made.moves[1:]], [("call", "up", 0)] * 3)

    def test_the_greatest_cost(self):
        def many(last, told):
            return edition("wants w", "first go", *["call mid 1"] * 7, "call low 1", "routine mid hidden",
                           *["call w 1"] * 8, "routine low hidden", *["call w 1"] * last,
                           "routine tell open", f"tell {told}")
        made = Saturation(Joint(many(3, 0), many(3, 1), "loaded", NONE, ("w",)))
        self.assertEqual(made.cost, 60)
        self.assertEqual(made.moves[0], ("load", (("w", ()),) * 59))
        self.assertEqual(made.moves[1][:3], ("call", "tell", 0))
        self.assertTrue(is_closed_below(made.joint, 60, made.floor(60)))
        self.assertFalse(is_closed_below(made.joint, 61, made.floor(61)))
        made = Saturation(Joint(many(4, 0), many(4, 1), "loaded", NONE, ("w",)))
        self.assertGreater(made.cost, 60)
        self.assertIsNone(made.moves)
        self.assertEqual(made.entries(), [])
        self.assertTrue(is_closed_below(made.joint, 60, made.floor(60)))


class AgainstTheWords(unittest.TestCase):
    def test_costs_moves_tables_and_floors(self):
        chance = random.Random(71)
        costs = {}
        for elder, newer, moment, manners, given in games(chance, 1500):
            joint = Joint(elder, newer, moment, manners, given)
            made = Saturation(joint)
            costs[made.cost] = costs.get(made.cost, 0) + 1
            self.assertEqual(least_cost(joint, 4), made.cost if made.cost is not None and made.cost <= 4 else None)
            limits = (0, 1, 2, 5, 60) if made.cost is None else range(min(made.cost, 6) + 1)
            for limit in limits:
                floor = made.floor(limit)
                self.assertTrue(is_closed_below(joint, limit, floor))
                self.assertEqual([base for base, _, _ in floor], [None] + sorted(base for base, _, _ in floor[1:]))
                for _, _, states in floor:
                    self.assertEqual(list(states), sorted(dict(states).items()))
            if made.cost is None:
                self.assertIsNone(made.moves)
                self.assertTrue(is_closed(joint, made.entries()))
                self.check_entries(joint, made.entries())
            else:
                self.assertEqual(made.entries(), [])
                self.assertEqual(Replay(elder, newer, moment, manners, given, made.moves).cost, made.cost)
        self.assertGreater(min(costs.get(cost, 0) for cost in (None, 0, 1, 2)), 10)

    def check_entries(self, joint, entries):
        """In their order, each state a pattern; the least closed ones, as nothing can be left out."""
        self.assertEqual(entries[0][0], None)
        bases = [base for base, _ in entries[1:]]
        self.assertEqual(bases, sorted(bases))
        for at, (base, states) in enumerate(entries):
            self.assertEqual(list(states), sorted(set(states)))
            for state in states:
                self.assertTrue(is_pattern(state, len(joint.first_values), joint.kept))
                less = entries[:at] + [(base, tuple(part for part in states if part != state))] + entries[at + 1:]
                self.assertFalse(is_closed(joint, less))

    def test_clients_that_do_the_moves_notice(self):
        chance = random.Random(72)
        count = 0
        for elder, newer, moment, manners, given in games(chance, 1200):
            made = Saturation(Joint(elder, newer, moment, manners, given))
            if made.moves is None:
                continue
            client = Writer(given, made.moves).client
            self.assertTrue(is_served(client, elder))
            self.assertTrue(manners_by_words(client, elder, newer).is_part_of(manners))
            first, second = worlds(elder, newer, moment)
            self.assertNotEqual(outcome(client, first), outcome(client, second))
            self.assertEqual(moves_by_words(client, elder, newer, moment), made.cost)
            count += 1
        self.assertGreater(count, 100)

    def test_no_client_notices_a_quiet_question(self):
        chance = random.Random(73)
        served = 0
        for elder, newer, moment, manners, _ in games(chance, 900):
            sets = given_sets(elder, newer, manners)
            costs = [Saturation(Joint(elder, newer, moment, manners, given)).cost for given in sets]
            for _ in range(4):
                client = some_client(chance, elder, newer)
                allowed = manners_by_words(client, elder, newer).is_part_of(manners)
                if not allowed or not is_served(client, elder):
                    continue
                first, second = worlds(elder, newer, moment)
                rows = outcome(client, first, limit=80)
                if costs == [None] * len(costs):
                    self.assertEqual(rows, outcome(client, second, limit=80))
                    served += 1
                elif rows != outcome(client, second, limit=80):
                    least = min(cost for cost in costs if cost is not None)
                    self.assertGreaterEqual(moves_by_words(client, elder, newer, moment), least)
        self.assertGreater(served, 200)

    def test_renamed_games(self):
        chance = random.Random(74)
        for elder, newer, moment, manners, given in games(chance, 300):
            image = chance.sample(range(-3, 4), 7)
            renaming = Renaming(list(zip(range(-3, 4), image)))
            one = Saturation(Joint(elder, newer, moment, manners, given))
            two = Saturation(Joint(renaming.of_edition(elder), renaming.of_edition(newer), moment, manners, given))
            self.assertEqual(one.cost, two.cost)

            def renamed(entries):
                return entries and tuple((kind, renaming(n) if kind == "kept" else n) for kind, n in entries)
            wanted = [(renamed(base), tuple(sorted(renamed(state) for state in states)))
                      for base, states in one.entries()]
            self.assertEqual(sorted(wanted[1:]), two.entries()[1:])
            self.assertEqual(wanted[:1], two.entries()[:1])


if __name__ == "__main__":
    unittest.main()
