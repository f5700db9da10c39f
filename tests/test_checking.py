"""Whether any value is a closed table, a floor or a clue (7.9, 7.11, 7.13)."""

import random
import unittest

from quietedition.checking import is_clue, is_floor, is_table
from quietedition.doors import given_sets
from quietedition.errors import BadMoment, TooMany
from quietedition.joint import Joint
from quietedition.manners import Manners
from quietedition.patterns import pattern, realise
from quietedition.saturation import Saturation
from quietedition.verdicts import clue_cost, judge
from quietedition.world import Moment
from tests.making import edition
from tests.oracle import EntriesByWords, Replay, followed, is_clue_by_words, notices_by_words
from tests.questions import ALL, NONE, NO_MOMENTS, questions

PUT = ("cell box hidden 0", "routine put open", "set box.0 it")
ELDER = edition(*PUT, "routine ask open", "same box.0 5 else 1", "tell 1")
NEWER = edition(*PUT, "routine ask open", "same box.0 6 else 1", "tell 1")
CLUE = ("game", (), (("load", ()), ("call", "put", 0, ("number", 5), ()), ("call", "ask", 0, ("number", 5), ())))
THINGS = (None, True, 0, -1, 10 ** 29, "", "game", [], (), [()], [[]], ((),), [None], [("a", "b", "c")],
          [((), None)], [((), None, ())], [((), None, 0, ())], [[[[[[[[]]]]]]]], ("game",), ("game", (), ()),
          ("game", (), ((),)), ("game", (), (("load",),)), ("game", (), (("load", ()),)), ("game", (), [("load", ())]),
          ["game", (), (("load", ()),)], ("game", [], (("load", ()),)), ("game", (), None), ("game", None, ()),
          ("wanted",), ("wanted", "w"), ("door", "put", 0), ("number", "a"), ("cell", "box", 0))


def replaced(thing, where, part):
    """The list or tuple with another part at a path of indexes."""
    if not where:
        return part
    whole = list(thing)
    whole[where[0]] = replaced(whole[where[0]], where[1:], part)
    return whole if isinstance(thing, list) else tuple(whole)


def part_at(thing, where):
    for at in where:
        thing = thing[at]
    return thing


def paths(thing):
    """The paths of indexes to all parts of lists and tuples, the whole first."""
    yield ()
    if isinstance(thing, (list, tuple)):
        for at, part in enumerate(thing):
            yield from ((at,) + where for where in paths(part))


def damaged(chance, thing, pool):
    """The thing with one part changed, left out, doubled, put in or exchanged with its neighbour."""
    where = chance.choice(list(paths(thing)))
    part = part_at(thing, where)
    kind = chance.randrange(8)
    if isinstance(part, int) and kind < 4:
        return replaced(thing, where, part + chance.choice((-1, 1)) if kind else bool(part))
    if not isinstance(part, (list, tuple)) or kind == 7:
        return replaced(thing, where, chance.choice(pool))
    if kind == 6:
        return replaced(thing, where, list(part) if isinstance(part, tuple) else tuple(part))
    parts = list(part)
    at = chance.randrange(len(parts) + 1)
    if kind < 2 or at == len(parts):
        parts.insert(at, chance.choice(pool))
    elif kind == 2:
        del parts[at]
    elif kind == 3:
        parts.insert(at, parts[at])
    elif kind == 4 and at > 0:
        parts[at - 1:at + 1] = [parts[at], parts[at - 1]]
    else:
        parts = sorted(parts + [chance.choice(pool)], key=repr)
    return replaced(thing, where, parts if isinstance(part, list) else tuple(parts))


def closed_with(chance, question, table, patterns):
    """The least closed table that has some more states, or None if there is none."""
    entries = {entry[:2]: set(entry[2]) for entry in table}
    for _ in range(chance.randrange(1, 3)):
        entries[chance.choice(list(entries))].add(chance.choice(patterns))
    if chance.randrange(2):
        base = chance.choice(patterns)
        entries.setdefault((table[0][0], base), set()).add(base)
    waiting = True
    while waiting:
        waiting = False
        for (given, base), states in list(entries.items()):
            joint = Joint(*question, given)
            begins = [joint.load()] if base is None else []
            for values in [realise(state, joint.kept) for state in states]:
                if joint.look(values) is not None:
                    return None
                begins.extend(joint.begin(values, move) for move in joint.moves(values, base is None))
            for begun in begins:
                for kind, shape, _ in followed(joint, begun, lambda q: [(t, 0) for t in entries.get((given, q), ())]):
                    if kind == "unlike":
                        return None
                    own = states if kind == "home" else entries.setdefault((given, shape), set())
                    waiting = waiting or shape not in own
                    own.add(shape)
    return [head + (tuple(sorted(states)),)
            for head, states in sorted(entries.items(), key=lambda entry: (entry[0][0], entry[0][1] or ()))]


class Tables(unittest.TestCase):
    MADE = edition("cell box hidden 0", "wants w", "routine f open", "set box.0 it", "call w 3", "set box.0 3")
    KEPT, NEW = (("kept", 3), ("kept", 3)), (("new", 0), ("new", 0))
    TABLE = [(("w",), None, (KEPT, NEW)), (("w",), KEPT, (KEPT,)), (("w",), NEW, (NEW,))]

    def is_table(self, thing, manners=NONE):
        return is_table(self.MADE, self.MADE, "loaded", manners, thing)

    def test_the_one_that_is_told(self):
        self.assertEqual(judge(self.MADE, self.MADE, "loaded", NONE).table, self.TABLE)
        self.assertIs(self.is_table(self.TABLE), True)
        self.assertTrue(is_table(elder=self.MADE, newer=self.MADE, moment="loaded", manners=NONE, thing=self.TABLE))

    def test_left_out(self):
        for at in range(3):
            self.assertIs(self.is_table(self.TABLE[:at] + self.TABLE[at + 1:]), False)
            for state in range(len(self.TABLE[at][2])):
                states = self.TABLE[at][2][:state] + self.TABLE[at][2][state + 1:]
                self.assertFalse(self.is_table(replaced(self.TABLE, (at, 2), states)))

    def test_put_in(self):
        other = (("new", 0), ("new", 1))
        mixed = (("kept", 3), ("new", 0))
        # These lead nowhere else, as no one sees what is in the box: a greater table is closed, too.
        bases = [(("w",), base, (base,)) for base in ((("kept", 3), ("kept", 3)), mixed, self.NEW, other)]
        whole = (self.KEPT, mixed, self.NEW, other)
        self.assertTrue(self.is_table([(("w",), None, whole)] + bases[:1] + bases[2:3]))
        self.assertTrue(self.is_table([(("w",), None, whole)] + bases))
        self.assertFalse(self.is_table([(("w",), None, (mixed,) + self.TABLE[0][2])] + self.TABLE[1:]))

    def test_runs_go_on_from_each_state_of_a_call_back(self):
        made = edition("cell box hidden 0", "wants w", "routine f open", "set box.0 it", "call w 3")
        table = judge(made, made, "loaded", NONE).table
        self.assertEqual(table, [(("w",), None, (self.KEPT, self.NEW))] + self.TABLE[1:])
        other = (("new", 0), ("new", 1))
        grown = replaced(table, (2, 2), (self.NEW, other))
        self.assertFalse(is_table(made, made, "loaded", NONE, grown))
        self.assertTrue(is_table(made, made, "loaded", NONE, replaced(grown, (0, 2), (self.KEPT, self.NEW, other))))

    def test_order_and_repetition(self):
        first, second, third = self.TABLE
        for wrong in ([second, first, third], [first, third, second], [first, second, second, third],
                      [first, first, second, third], [third, second, first],
                      replaced(self.TABLE, (0, 2), (self.NEW, self.KEPT)),
                      replaced(self.TABLE, (0, 2), (self.KEPT, self.KEPT, self.NEW))):
            self.assertFalse(self.is_table(wrong))

    def test_other_kinds_of_values(self):
        for where in paths(self.TABLE):
            part = part_at(self.TABLE, where)
            if isinstance(part, (list, tuple)):
                self.assertFalse(self.is_table(replaced(self.TABLE, where, list(part) if isinstance(part, tuple)
                                                        else tuple(part))))
            if part in (0, 1):
                self.assertFalse(self.is_table(replaced(self.TABLE, where, bool(part))))
            for thing in (None, True, [], (), "w", 3, ("w",)):
                if thing != part:
                    self.assertFalse(self.is_table(replaced(self.TABLE, where, thing)), (where, thing))
        for thing in THINGS:
            self.assertIs(self.is_table(thing), False)

    def test_true_is_no_one(self):
        made = edition("cell box hidden 1", "routine f open", "tell 1", "tell 0")
        for number in (0, 1):
            kept = (("kept", number), ("kept", number))
            other = edition(f"cell box hidden {number}", "routine f open", "tell 1", "tell 0")
            self.assertTrue(is_table(other, other, "loaded", NONE, [((), None, (kept,))]))
            kept = (("kept", bool(number)), ("kept", number))
            self.assertFalse(is_table(other, other, "loaded", NONE, [((), None, (kept,))]))
        self.assertFalse(is_table(made, made, "loaded", NONE, [((), None, ())]))

    def test_tables_of_more_manners(self):
        """What is closed for more manners of one given set is closed for fewer."""
        table = judge(self.MADE, self.MADE, "loaded", ALL).table
        self.assertTrue(self.is_table(table, ALL))
        self.assertTrue(self.is_table(table))
        self.assertFalse(self.is_table(self.TABLE, Manners.of("within")))
        made = edition("routine f open", "end", "routine g open", "call f 1")
        more = judge(made, made, "linked", Manners.of("over")).table
        self.assertFalse(is_table(made, made, "linked", NONE, more))
        self.assertFalse(is_table(made, made, "linked", Manners.of("over"), more[:1]))
        self.assertTrue(is_table(made, made, "linked", NONE, more[:1]))
        self.assertTrue(is_table(made, made, "linked", Manners.of("over"), more))

    def test_noticed(self):
        table = [((), None, tuple(EntriesByWords(ELDER, NEWER, "loaded", NONE).patterns))]
        self.assertFalse(is_table(ELDER, NEWER, "loaded", NONE, table))
        self.assertFalse(is_table(ELDER, NEWER, "loaded", NONE, []))
        # A look at a state that nobody reaches counts, too.
        made = edition("cell p open 0")
        self.assertTrue(is_table(made, made, "loaded", Manners.of("straight"), [((), None, (self.NEW[:1] * 2,))]))
        other = (("new", 0), ("new", 1))
        self.assertFalse(is_table(made, made, "loaded", Manners.of("straight"), [((), None, (self.NEW, other))]))
        self.assertTrue(is_table(made, made, "loaded", NONE, [((), None, (self.NEW, other))]))

    def test_noticed_at_once(self):
        wants = edition("wants w")
        self.assertFalse(is_table(edition(), wants, "loaded", NONE, [((), None, ((),))]))
        self.assertTrue(is_table(edition(), edition(), "loaded", NONE, [((), None, ((),))]))
        self.assertTrue(is_table(wants, wants, "loaded", NONE, [(("w",), None, ((),))]))

    def test_the_loading(self):
        """The loading alone makes a state or a base needed."""
        made = edition("cell box hidden 0", "wants w", "first go", "call w 1")
        self.assertTrue(is_table(made, made, "loaded", NONE, [(("w",), None, (self.NEW,)), (("w",), self.NEW, (self.NEW,))]))
        self.assertFalse(is_table(made, made, "loaded", NONE, [(("w",), None, (self.NEW,))]))
        self.assertFalse(is_table(made, made, "loaded", NONE, [(("w",), None, ()), (("w",), self.NEW, (self.NEW,))]))

    def test_against_the_words(self):
        chance = random.Random(121)
        seen = {True: 0, False: 0}
        for question in questions(chance, 500):
            table = judge(*question).table
            if notices_by_words(*question):
                continue
            words = EntriesByWords(*question)
            things = [table, [(given, None, tuple(words.patterns)) for given in words.sets]]
            more = closed_with(chance, question, table, words.patterns) if table else None
            things += [more] * (more is not None)
            pool = [part_at(table, where) for where in paths(table)] + words.patterns + list(THINGS)
            for thing in list(things):
                for _ in range(6):
                    things.append(damaged(chance, thing, pool))
                    things.append(damaged(chance, things[-1], pool))
            for thing in things:
                wanted = words.is_table(thing)
                self.assertIs(is_table(*question, thing), wanted, thing)
                seen[wanted] += 1
            if more is not None:
                self.assertTrue(is_table(*question, more))
        self.assertGreater(min(seen.values()), 500)


class Floors(unittest.TestCase):
    STATE = (("new", 0), ("new", 0))
    ONE, FIVE, SIX = [(("kept", n),) * 2 for n in (1, 5, 6)]
    FLOOR = [((), None, 0, ((ONE, 1), (FIVE, 1), (SIX, 1), (STATE, 0)))]

    def is_floor(self, cost, thing):
        return is_floor(ELDER, NEWER, "loaded", NONE, cost, thing)

    def test_below_the_cost_and_not_below_more(self):
        floor = judge(ELDER, NEWER, "loaded", NONE).floor
        for cost in (-5, 0, 1, 2):
            self.assertIs(self.is_floor(cost, floor), True)
        for cost in (3, 4, 60, 10 ** 20):
            self.assertIs(self.is_floor(cost, floor), False)
        self.assertTrue(is_floor(elder=ELDER, newer=NEWER, moment="loaded", manners=NONE, cost=2, thing=floor))

    def test_spent_changed_by_one(self):
        self.assertTrue(self.is_floor(2, self.FLOOR))
        for at, spent, wanted in ((0, 0, True), (1, 0, False), (2, 0, False), (0, 2, False), (1, 2, False), (2, 2, False),
                                  (3, 1, False)):
            self.assertEqual(self.is_floor(2, replaced(self.FLOOR, (0, 3, at, 1), spent)), wanted)
        for at in range(4):
            self.assertFalse(self.is_floor(2, replaced(self.FLOOR, (0, 3), self.FLOOR[0][3][:at] + self.FLOOR[0][3][at + 1:])))
        new, five, six = self.STATE, self.FIVE, self.SIX
        self.assertTrue(self.is_floor(1, [((), None, 0, ((new, 0),))]))
        self.assertTrue(self.is_floor(1, [((), None, 0, ((five, 0), (six, 0), (new, 0)))]))
        self.assertTrue(self.is_floor(0, [((), None, 0, ())]))
        self.assertFalse(self.is_floor(1, [((), None, 0, ())]))

    def test_reach_changed_by_one(self):
        elder, newer = [edition("cell p hidden 0", "wants w", "routine f open", "call w 1", "same p.0 2 else 1",
                                f"tell {n}", "routine put open", "set p.0 2", "routine g open", "set p.0 it", "call w 1",
                                "set p.0 2") for n in (0, 1)]
        verdict = judge(elder, newer, "loaded", NONE)
        self.assertEqual(verdict.cost, 3)
        floor = verdict.floor
        self.assertTrue(is_floor(elder, newer, "loaded", NONE, 3, floor))
        for at, entry in enumerate(floor):
            for reach in (-1, 0, 1, 2, 3, 4):
                changed = replaced(floor, (at, 2), reach)
                wanted = EntriesByWords(elder, newer, "loaded", NONE).is_floor(3, changed)
                self.assertEqual(is_floor(elder, newer, "loaded", NONE, 3, changed), wanted)
                if reach > entry[2] and entry[2] < 3:
                    self.assertFalse(wanted)
        self.assertEqual([entry[2] for entry in floor], [0, 2, 2, 2, 2])

    def test_each_number_within_calls_back(self):
        """Floors of a game in which the client moves within a call back, and the run goes on behind that."""
        made = edition("cell p hidden 0", "wants w", "routine f open", "set p.0 0", "call w 0", "same p.0 3 else 1",
                       "set p.0 5", "routine put open", "set p.0 3")
        within = Manners.of("within")
        game = Saturation(Joint(made, made, "linked", within, ("w",)))
        floor = [(("w",),) + entry for entry in game.floor(7)]
        kept = {n: (("kept", n),) * 2 for n in (0, 3, 5)}
        self.assertEqual(floor, [(("w",), None, 0, ((kept[0], 0), (kept[3], 1), (kept[5], 3))),
                                 (("w",), kept[0], 2, ((kept[0], 0), (kept[3], 1), (kept[5], 3)))])
        words = EntriesByWords(made, made, "linked", within)
        told = []
        for where in paths(floor):
            if not isinstance(part_at(floor, where), int) or len(where) == 6:
                continue
            for number in range(9):
                changed = replaced(floor, where, number)
                for limit in range(8):
                    wanted = words.is_floor(limit, changed)
                    self.assertIs(is_floor(made, made, "linked", within, limit, changed), wanted, (where, number, limit))
                    told.append(wanted)
        self.assertGreater(min(told.count(True), told.count(False)), 150)
        # What is spent in a call back counts from its beginning, and goes on to count behind it.
        for where, number, wanted in (((1, 3, 1, 1), 2, False), ((1, 3, 1, 1), 0, False), ((1, 3, 2, 1), 4, False),
                                      ((1, 3, 2, 1), 2, True), ((0, 3, 2, 1), 4, False), ((0, 3, 2, 1), 2, True),
                                      ((1, 2), 3, False), ((1, 2), 1, True), ((0, 3, 1, 1), 2, False)):
            self.assertEqual(is_floor(made, made, "linked", within, 7, replaced(floor, where, number)), wanted, where)

    def test_nothing_is_asked_of_what_costs_as_much(self):
        mixed = (("kept", 5), ("kept", 1))
        for spent, wanted in ((0, False), (1, True), (2, True), (10 ** 29, True)):
            more = replaced(self.FLOOR, (0, 3), self.FLOOR[0][3][:1] + ((mixed, spent),) + self.FLOOR[0][3][1:])
            self.assertEqual(self.is_floor(2, more), wanted)
        for reach in (0, 1, 2, 10 ** 29):
            self.assertTrue(self.is_floor(2, self.FLOOR + [((), self.FIVE, reach, ((self.FIVE, 0),))]))
        self.assertFalse(self.is_floor(2, self.FLOOR + [((), self.FIVE, 9, ((self.FIVE, 1),))]))
        self.assertFalse(self.is_floor(2, self.FLOOR + [((), self.FIVE, 9, ())]))

    def test_looks_add_nothing(self):
        elder, newer = edition("cell p open 0", "routine f open", "end"), edition("cell p open 0", "routine f open",
                                                                                  "set p.0 it")
        straight = Manners.of("straight")
        verdict = judge(elder, newer, "loaded", straight)
        self.assertEqual(verdict.cost, 1)
        self.assertTrue(is_floor(elder, newer, "loaded", straight, 1, verdict.floor))
        other = (("new", 0), ("new", 1))
        self.assertFalse(is_floor(elder, newer, "loaded", straight, 2, [((), None, 0, ((self.STATE, 0), (other, 2)))]))
        self.assertFalse(is_floor(elder, newer, "loaded", straight, 1, [((), None, 0, ((self.STATE, 0), (other, 0)))]))
        self.assertTrue(is_floor(elder, newer, "loaded", straight, 1, [((), None, 0, ((self.STATE, 0), (other, 1)))]))

    def test_quiet_questions_have_floors(self):
        table = judge(ELDER, ELDER, "loaded", NONE).table
        floor = [(given, base, 0, tuple((state, 0) for state in states)) for given, base, states in table]
        for cost in (0, 60, 10 ** 20):
            self.assertTrue(is_floor(ELDER, ELDER, "loaded", NONE, cost, floor))
        self.assertFalse(is_floor(ELDER, ELDER, "loaded", NONE, 1, []))
        self.assertFalse(is_floor(ELDER, ELDER, "loaded", NONE, 0, []))

    def test_noticed_at_once(self):
        self.assertEqual(judge(edition(), edition("wants w"), "loaded", NONE).floor, [])
        for thing in ([], [((), None, 0, (((), 0),))]):
            self.assertFalse(is_floor(edition(), edition("wants w"), "loaded", NONE, 0, thing))
        self.assertTrue(is_floor(edition(), edition(), "loaded", NONE, 0, [((), None, 0, (((), 0),))]))

    def test_other_kinds_of_values(self):
        floor = judge(ELDER, NEWER, "loaded", NONE).floor
        for where in paths(floor):
            part = part_at(floor, where)
            if isinstance(part, (list, tuple)):
                self.assertFalse(self.is_floor(2, replaced(floor, where, list(part) if isinstance(part, tuple)
                                                           else tuple(part))))
            if part in (0, 1):
                self.assertFalse(self.is_floor(2, replaced(floor, where, bool(part))))
                self.assertFalse(self.is_floor(2, replaced(floor, where, -1)))
        for thing in THINGS:
            self.assertFalse(self.is_floor(2, thing))
        self.assertFalse(self.is_floor(2, [entry[:2] + entry[3:] for entry in floor]))
        self.assertFalse(self.is_floor(2, tuple(floor)))

    def test_against_the_words(self):
        chance = random.Random(122)
        seen = {True: 0, False: 0}
        for question in questions(chance, 600):
            if notices_by_words(*question):
                continue
            verdict = judge(*question)
            floor = verdict.floor if not verdict.is_quiet else [
                (given, base, 0, tuple((state, 0) for state in states)) for given, base, states in verdict.table]
            words = EntriesByWords(*question)
            pool = [part_at(floor, where) for where in paths(floor)] + words.patterns + [
                (state, cost) for state in words.patterns for cost in (0, 1, 2)] + list(THINGS)
            for _ in range(15):
                thing = damaged(chance, floor, pool)
                if chance.randrange(3) == 0:
                    thing = damaged(chance, thing, pool)
                for cost in (0, 1, 2, 3, 60) if verdict.is_quiet else range(verdict.cost + 2):
                    wanted = words.is_floor(cost, thing)
                    self.assertIs(is_floor(*question, cost, thing), wanted, (thing, cost))
                    seen[wanted] += 1
        self.assertGreater(min(seen.values()), 500)


class Clues(unittest.TestCase):
    def is_clue(self, thing):
        return is_clue(ELDER, NEWER, "loaded", NONE, thing)

    def test_the_example(self):
        self.assertIs(self.is_clue(CLUE), True)
        self.assertTrue(is_clue(elder=ELDER, newer=NEWER, moment="loaded", manners=NONE, thing=CLUE))
        for number in (0, -7, 5, 6, 999999999, -999999999):
            self.assertTrue(self.is_clue(replaced(CLUE, (2, 2, 3, 1), number)))
        for number in (1000000000, -1000000000, True, "5", None, (5,)):
            self.assertIs(self.is_clue(replaced(CLUE, (2, 2, 3, 1), number)), False)
        for number in (4, 7, 0, 999999999):
            self.assertFalse(self.is_clue(replaced(CLUE, (2, 1, 3, 1), number)))
        self.assertTrue(self.is_clue(replaced(CLUE, (2, 1, 3, 1), 6)))

    def test_moves_left_out_doubled_and_put_in(self):
        load, put, ask = CLUE[2]
        for moves in ((), (load,), (load, put), (load, ask), (put, ask), (load, ask, put), (load, put, ask, ask),
                      (load, put, ask, put), (load, load, put, ask), (put, load, ask), (load, put, ("load", ()), ask),
                      (load, put, ask, ("load", ()))):
            self.assertFalse(self.is_clue(("game", (), moves)), moves)
        for moves in ((load, put, put, ask), (load, ask, put, ask), (load, ask, ask, put, ask)):
            self.assertTrue(self.is_clue(("game", (), moves)), moves)
        self.assertEqual(clue_cost(("game", (), (load, ask, ask, put, ask))), 4)

    def test_doors(self):
        for name, tag in (("put", 1), ("put", True), ("put", False), ("pot", 0), (None, 0), (("put",), 0), ("put", None)):
            self.assertFalse(self.is_clue(replaced(replaced(CLUE, (2, 1, 1), name), (2, 1, 2), tag)))
        tagged = [edition("routine f open at 2 default", f"tell {n}") for n in (0, 1)]
        for tag, manners, wanted in ((0, NONE, True), (2, NONE, False), (0, Manners.of("tags"), True),
                                     (2, Manners.of("tags"), True), (1, Manners.of("tags"), False)):
            clue = ("game", (), (("load", ()), ("call", "f", tag, ("number", 3), ())))
            self.assertEqual(is_clue(*tagged, "linked", manners, clue), wanted)

    def test_given_sets(self):
        for given in (("put",), ("w",), [], None, "", ("",), 0):
            self.assertFalse(self.is_clue(replaced(CLUE, (1,), given)))
        back = [edition("routine f open", "end", "routine g open", f"call f {n}") for n in (0, 1)]
        moves = (("load", ()), ("call", "g", 0, ("number", 3), ()))
        self.assertTrue(is_clue(*back, "linked", Manners.of("over"), ("game", ("f",), moves)))
        self.assertFalse(is_clue(*back, "linked", Manners.of("over"), ("game", (), moves)))
        self.assertFalse(is_clue(*back, "linked", Manners.of("over"), ("game", ("f", "f"), moves)))
        self.assertFalse(is_clue(*back, "linked", Manners.of("over"), ("game", ["f"], moves)))
        self.assertFalse(is_clue(*back, "linked", NONE, ("game", ("f",), moves)))
        inner = (("load", ()), ("call", "g", 0, ("number", 3), ()), ("call", "f", 0, ("number", 3), ()))
        self.assertFalse(is_clue(*back, "linked", Manners.of("over"), ("game", ("f",), inner)))

    HOMES = [edition("cell p hidden 0", "wants w", "wants v", "routine f open", "call w 1", "call v 1",
                     "same p.0 4 else 1", f"tell {n}", "routine put open", "set p.0 it") for n in (0, 1)]

    def test_homes(self):
        put = ("call", "put", 0, ("number", 4), ())
        call = ("call", "f", 0, ("number", 0), (("w", ()), ("v", ())))
        clue = ("game", ("v", "w"), (("load", ()), put, call))
        question = (*self.HOMES, "linked", Manners.of("within"))
        self.assertTrue(is_clue(*question, clue))
        for homes in ((), (("w", ()),), (("v", ()), ("w", ())), (("w", ()), ("w", ())), (("w", ()), ("v", ()), ("w", ())),
                      (("w", ()), ("v", ()), ("v", ())), [("w", ()), ("v", ())], (["w", ()], ("v", ())),
                      (("w", []), ("v", ())), (("w",), ("v", ())), (("w", (), ()), ("v", ())), (None, None)):
            self.assertFalse(is_clue(*question, replaced(clue, (2, 2, 4), homes)), homes)
        self.assertFalse(is_clue(*question, replaced(clue, (2, 1, 4), (("w", ()),))))
        self.assertFalse(is_clue(*question, replaced(clue, (2, 0, 1), (("w", ()),))))
        for moves in ((put,), (put, put)):
            within = replaced(clue, (2, 2, 4, 1, 1), moves)
            self.assertTrue(is_clue(*question, within))
            self.assertTrue(is_clue(*question, ("game", ("v", "w"), (within[2][0], within[2][2]))))
            self.assertFalse(is_clue(*question[:3], NONE, within))
        self.assertFalse(is_clue(*question, replaced(clue, (2, 2, 4, 0, 1), (("load", ()),))))
        # A notice in the first home leaves the second one out.
        inner = ("call", "f", 0, ("number", 0), (("w", ()), ("v", ())))
        deep = ("call", "f", 0, ("number", 0), (("w", (put, inner)),))
        self.assertTrue(is_clue(*question, ("game", ("v", "w"), (("load", ()), deep))))
        self.assertFalse(is_clue(*question, ("game", ("v", "w"), (("load", ()), deep, put))))
        self.assertFalse(is_clue(*question, ("game", ("v", "w"), (("load", ()), deep[:4] + ((deep[4][0], ("v", ())),)))))
        self.assertFalse(is_clue(*question, ("game", ("v", "w"), (
            ("load", ()), deep[:4] + ((("w", (put, inner, put)),),)))))

    def test_writes_and_looks(self):
        elder = edition("cell p open 0 0", "routine f open", "set p.1 it")
        newer = edition("cell p open 0 0", "routine f open", "end", "routine g open", "end")
        question = (elder, newer, "linked", Manners.of("straight", "asks"))
        load, look = ("load", ()), ("look", "p", 1)
        call = ("call", "f", 0, ("number", 7), ())
        write = ("write", "p", 1, ("number", 7))
        def told(*moves):
            return is_clue(*question, ("game", (), (load,) + moves))
        self.assertTrue(told(call, look))
        self.assertTrue(told(("ask", "g")))
        self.assertTrue(told(call, ("ask", "g")))
        self.assertTrue(told(write, ("ask", "g")))
        self.assertFalse(told(look))
        self.assertFalse(told(call, ("look", "p", 0)))
        self.assertFalse(told(call, ("look", "p", True)))
        self.assertFalse(told(call, ["look", "p", 1]))
        self.assertFalse(told(call, ("look", "p", 1, 0)))
        self.assertFalse(told(call, ("show", "p")))
        self.assertFalse(told(call, write, look))
        self.assertFalse(told(write, call, look))
        self.assertTrue(told(call, ("write", "p", 0, ("number", 7)), look))
        self.assertFalse(told(("ask", "f")))
        self.assertFalse(told(("ask", "g"), ("ask", "g")))
        self.assertFalse(told(call, look, ("ask", "g")))
        self.assertFalse(told(("ask", "g"), call))
        for wrong in (("write", "p", 2, ("number", 7)), ("write", "p", True, ("number", 7)), ("write", "q", 0, ("number", 7)),
                      ("write", ["p"], 0, ("number", 7)), ("write", "p", 0, ("number", 10 ** 9)), ("write", "p", 0, 7),
                      ("write", "p", 0, ("named", "a")), ("write", "p", 0, ["number", 7]), ("write", "p", 0), ("end",), (),
                      ("write", "p", 0, ("number", 7), ()), ("argument",), None, 3, "write"):
            self.assertFalse(told(wrong, ("ask", "g")), wrong)
        self.assertFalse(is_clue(elder, newer, "linked", Manners.of("straight"), ("game", (), (load, ("ask", "g")))))
        self.assertFalse(is_clue(elder, newer, "linked", Manners.of("asks"), ("game", (), (load, call, look))))
        self.assertFalse(is_clue(elder, newer, "linked", Manners.of("asks"), ("game", (), (load, write, ("ask", "g")))))

    def test_named_values_and_shows(self):
        elder, newer = [edition(f"number a {n}", "number b 3", "routine f open", "same it 1 else 1", "tell 9")
                        for n in (1, 2)]
        load = ("load", ())
        def told(moment, manners, *moves):
            return is_clue(elder, newer, moment, manners, ("game", (), (load,) + moves))
        call = ("call", "f", 0, ("named", "a"), ())
        self.assertTrue(told("assembled", NONE, call))
        self.assertFalse(told("linked", NONE, call))
        for value in (("named", "b"), ("named", "c"), ("named", None), ("named", ["a"]), ("named",), ["named", "a"],
                      ("number", 1), ("kept", 1)):
            self.assertFalse(told("assembled", NONE, ("call", "f", 0, value, ())))
        shows = Manners.of("shows")
        self.assertTrue(told("assembled", shows, ("show", "a")))
        self.assertFalse(told("assembled", shows, ("show", "b")))
        self.assertFalse(told("assembled", NONE, ("show", "a")))
        self.assertFalse(told("loaded", shows, ("show", "a")))

    def test_notices_at_once(self):
        elder = edition("number a 2", "cell p open 0 0", "routine f open at 1 default", "end", "routine g open", "end")
        newer = edition("wants w", "wants v")
        everything = [("wanted", "v"), ("wanted", "w"), ("door", "f", 0), ("door", "f", 1), ("door", "g", 0),
                      ("number", "a"), ("cell", "p", 1)]
        for moment in Moment.ALL:
            for clue in everything:
                wanted = clue[0] != "number" or moment == "assembled"
                self.assertIs(is_clue(elder, newer, moment, ALL - Manners.of("within"), clue), wanted)
        self.assertFalse(is_clue(elder, newer, "linked", NONE, ("cell", "p", 1)))
        self.assertFalse(is_clue(elder, newer, "linked", NONE, ("door", "f", 1)))
        for wrong in (("wanted", "u"), ("wanted",), ("door", "f", True), ("door", "f", 2), ("door", "g", False),
                      ("door", "g", 1), ("number", "b"), ("cell", "p", 0), ("cell", "p", True), ["wanted", "v"],
                      ("wanted", "v", 0), ("game", (), (("load", ()),)), ("game", (), ()), "wanted", None):
            self.assertIs(is_clue(elder, newer, "assembled", ALL - Manners.of("within"), wrong), False)
        # A notice in the game is no clue where somebody notices at once.
        one, two = edition("routine f open", "tell 1"), edition("wants w", "routine f open", "tell 2")
        self.assertFalse(is_clue(one, two, "loaded", NONE, ("game", (), (("load", ()), ("call", "f", 0, ("number", 1), ())))))

    def test_other_kinds_of_values(self):
        for thing in THINGS:
            self.assertIs(self.is_clue(thing), False)
        for where in paths(CLUE):
            part = part_at(CLUE, where)
            if isinstance(part, tuple):
                self.assertFalse(self.is_clue(replaced(CLUE, where, list(part))))
            for thing in (None, True, False, [], "w", ("w",)):
                self.assertFalse(self.is_clue(replaced(CLUE, where, thing)), (where, thing))

    def test_many_homes(self):
        lines = ("wants w", "routine f open", "call w 1")
        elder, newer = [edition(*lines, "routine t open", f"tell {n}") for n in (0, 1)]
        question = (elder, newer, "loaded", Manners.of("within"))
        moves = (("call", "t", 0, ("number", 1), ()),)
        for count in range(201):
            if count in (0, 1, 50, 200):
                self.assertTrue(is_clue(*question, ("game", ("w",), (("load", ()),) + moves)))
                behind = moves + (("call", "f", 0, ("number", 1), (("w", ()),)),)
                self.assertFalse(is_clue(*question, ("game", ("w",), (("load", ()),) + behind)))
            moves = (("call", "f", 0, ("number", 1), (("w", moves),)),)
        beside = (("call", "f", 0, ("number", 1), (("w", ()),)),) * 199 + (("call", "t", 0, ("number", 1), ()),)
        self.assertTrue(is_clue(*question, ("game", ("w",), (("load", ()),) + beside)))
        self.assertFalse(is_clue(*question, ("game", ("w",), (("load", ()),) + beside[:-1])))

    def test_against_the_words(self):
        chance = random.Random(123)
        seen = {True: 0, False: 0}
        for question in questions(chance, 2500):
            verdict = judge(*question)
            if verdict.is_quiet:
                continue
            self.assertIs(is_clue(*question, verdict.clue), True)
            if verdict.clue[0] == "game":
                self.assertEqual(Replay(*question, *verdict.clue[1:]).cost, verdict.cost)
            joint = Joint(*question, verdict.clue[1]) if verdict.clue[0] == "game" else None
            moves = [move + ((),) * (move[0] == "call") for top in (True, False)
                     for move in joint.moves(joint.first_values, top)] if joint else []
            pool = [part_at(verdict.clue, where) for where in paths(verdict.clue)] + moves * 3 + list(THINGS)
            for _ in range(25):
                thing = damaged(chance, verdict.clue, pool)
                if chance.randrange(3) == 0:
                    thing = damaged(chance, thing, pool)
                wanted = is_clue_by_words(*question, thing)
                self.assertIs(is_clue(*question, thing), wanted, thing)
                seen[wanted] += 1
        self.assertGreater(min(seen.values()), 150)


class Errors(unittest.TestCase):
    def test_what_is_raised_first(self):
        many = edition("routine f open", "tell 1", "tell 2", "tell 3", "tell 4")
        for thing in (None, [], CLUE, 3):
            for moment in NO_MOMENTS:
                for check in (lambda: is_table(many, many, moment, ALL, thing),
                              lambda: is_clue(many, many, moment, ALL, thing),
                              lambda: is_floor(many, many, moment, ALL, 2, thing)):
                    with self.assertRaises(BadMoment) as caught:
                        check()
                    self.assertEqual(caught.exception.moment, moment)
            for newer in (many, edition("wants w")):
                for check in (lambda: is_table(many, newer, "linked", ALL, thing),
                              lambda: is_clue(many, newer, "linked", ALL, thing),
                              lambda: is_floor(many, newer, "linked", ALL, 2, thing)):
                    with self.assertRaises(TooMany) as caught:
                        check()
                    self.assertEqual(caught.exception.what, "numbers")

    def test_things_are_not_changed(self):
        table = judge(Tables.MADE, Tables.MADE, "loaded", NONE).table
        kept = [entry for entry in table]
        is_table(Tables.MADE, Tables.MADE, "loaded", NONE, table)
        self.assertEqual(table, kept)

    def test_given_sets_of_a_table(self):
        """Joint values, patterns and given sets are those of the question."""
        made = edition("cell p hidden 0", "routine f open", "end", "first x", "call f 1")
        shape = pattern((0, 0), [1])
        entries = [(given, None, (shape,)) for given in given_sets(made, made, Manners.of("over"))]
        back = (("f",), shape, (shape,))
        self.assertTrue(is_table(made, made, "linked", Manners.of("over"), entries + [back]))
        self.assertFalse(is_table(made, made, "linked", Manners.of("over"), entries))
        self.assertFalse(is_table(made, made, "linked", Manners.of("over"), entries[1:] + [back]))
        self.assertFalse(is_table(made, made, "linked", NONE, entries + [back]))


if __name__ == "__main__":
    unittest.main()
