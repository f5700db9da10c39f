"""Trials (8.2, 8.3)."""

import random
import unittest

from quietedition.errors import BadMoment
from quietedition.judging import manners_of
from quietedition.machine import LIMIT
from quietedition.runs import is_served, outcome, unlike
from quietedition.trials import Trial, noticed_at, passings
from quietedition.units import Client
from quietedition.world import Moment, worlds
from tests.clients import moves_by_words, passings_by_words, told_by
from tests.making import changed, edition, some_client, some_edition, unit
from tests.questions import NO_MOMENTS

ELDER = edition("cell p open 0", "wants w", "routine f open", "call w it", "tell 1", "routine g open", "tell 3")
NEWER = edition("cell p open 0", "wants w", "routine f open", "call w it", "tell 2", "routine g open", "tell 3")


def client_of(*start):
    return Client.of(unit("routine w", "tell it", "start", *start))


class Attributes(unittest.TestCase):
    def test_noticing(self):
        client = client_of("call g 4", "set p.0 1", "call f 5", "call f 6")
        trial = Trial(client=client, elder=ELDER, newer=NEWER, moment="linked")
        self.assertEqual((trial.client, trial.elder, trial.newer, trial.moment, trial.limit),
                         (client, ELDER, NEWER, "linked", LIMIT))
        self.assertEqual(trial.first, [("edition", 3), ("client", 5), ("edition", 1), ("client", 6), ("edition", 1),
                                       ("end", "plain")])
        self.assertEqual(trial.second, [("edition", 3), ("client", 5), ("edition", 2), ("client", 6), ("edition", 2),
                                        ("end", "plain")])
        self.assertEqual(trial.place, 2)
        self.assertEqual(trial.manners.names, ("straight",))
        self.assertIs(trial.is_served, True)
        self.assertIs(trial.is_noticing, True)
        self.assertEqual(trial.moves(), 4)

    def test_not_noticing(self):
        trial = Trial(client_of("call g 4", "call g 4"), ELDER, NEWER, "loaded")
        self.assertEqual((trial.is_served, trial.is_noticing, trial.place, trial.moves()), (True, False, None, 2))
        self.assertEqual(trial.first, trial.second)

    def test_no_moment(self):
        for thing in NO_MOMENTS:
            with self.assertRaises(BadMoment) as caught:
                Trial(client_of("end"), ELDER, NEWER, thing)
            self.assertEqual(caught.exception.moment, thing)

    def test_limit_by_name_only(self):
        with self.assertRaises(TypeError):
            Trial(client_of("end"), ELDER, NEWER, "loaded", 5)

    def test_limits(self):
        client = client_of("call g 4", "call f 5", "end")
        for limit, count, place in ((0, 0, None), (1, 1, None), (2, 3, None), (3, 3, 2), (10000, 3, 2)):
            trial = Trial(client, ELDER, NEWER, "loaded", limit=limit)
            self.assertEqual((trial.limit, trial.moves(), trial.place), (limit, count, place), limit)
            self.assertIs(trial.is_noticing, place is not None)
        self.assertEqual(Trial(client, ELDER, NEWER, "loaded", limit=0).first, [("end", "long")])
        self.assertEqual(Trial(client, ELDER, NEWER, "loaded", limit=1).second, [("edition", 3), ("end", "long")])

    def test_refused(self):
        client = client_of("call h 1", "call g 4")
        has_h = edition(*ELDER.text().split("\n")[1:], "routine h open", "tell 3")
        one = Trial(client, has_h, ELDER, "loaded")
        self.assertEqual((one.is_served, one.is_noticing, one.place, one.moves()), (True, True, 0, 0))
        self.assertEqual(one.second, [("refused", "loading", "name", "h")])
        # The elder edition refuses it: nothing is noticed, though the told rows are unlike.
        other = Trial(client, ELDER, has_h, "linked")
        self.assertEqual((other.is_served, other.is_noticing, other.place, other.moves()), (False, False, 0, 0))
        self.assertEqual(other.first, [("refused", "linking", "name", "h")])
        both = Trial(client, ELDER, NEWER, "assembled")
        self.assertEqual((both.is_served, both.is_noticing, both.place, both.moves()), (False, False, None, 0))


class Moves(unittest.TestCase):
    def test_passings(self):
        told = [("first", "x"), ("tell", "edition", 1), ("home",), ("into", "f", 2, 7), ("out", "w", 3), ("read", "p", 0),
                ("write", "p", 1, 9), ("tell", "client", 4), ("done",), ("home",), ("end", "lost f")]
        wanted = [("tell", "edition", 1), ("into", "f"), ("out", "w", 3), ("write", "p", 1), ("tell", "client", 4),
                  ("end", "lost f")]
        self.assertEqual(passings(events=told), wanted)
        self.assertEqual(passings([]), [])
        self.assertEqual(len(told), 11)

    def moves(self, elder, newer, client, limit=LIMIT):
        return Trial(client, elder, newer, "linked", limit=limit).moves()

    def test_tags_and_numbers_of_entering_and_writing(self):
        """Neither the real tag, nor what is passed or written, makes two passings unlike."""
        elder = edition("number n 1", "cell p open 0", "routine f open at 1 default", "end")
        newer = edition("number n 2", "cell p open 0", "routine f open at 2 default", "end")
        client = Client.of(unit("start", "call f #n", "set p.0 #n", "call f 1", "tell p.0", "call f 1"))
        trial = Trial(client, elder, newer, "assembled")
        self.assertEqual((trial.moves(), trial.place), (3, 0))
        self.assertEqual(self.moves(elder, newer, client), 4)

    def test_what_calls_back_counts_with_its_number(self):
        lines = ("wants w", "routine f open")
        for back, wanted in (("call w 1", 2), ("call w 2", 1), ("end", 1), ("tell 1", 1)):
            client = Client.of(unit("routine w", "end", "start", "call f 1"))
            self.assertEqual(self.moves(edition(*lines, "call w 1"), edition(*lines, back), client), wanted)

    def test_one_run_that_is_the_beginning_of_the_other(self):
        elder = edition("routine f open", "tell 1", "routine g open", "end")
        newer = edition("routine f open", "tell 1", "routine g open", "tell 1")
        for rows in (["call f 1", "call g 1"], ["call f 1", "call g 1", "call f 1"]):
            client = Client.of(unit("start", *rows))
            trial = Trial(client, elder, newer, "linked")
            self.assertEqual((trial.moves(), trial.place, trial.is_noticing), (2, len(rows) - 1, True))
        late = Client.of("unit u late\nstart\ncall f 1\ncall h 1")
        with_h = edition("routine f open", "tell 1", "routine h open", "end")
        trial = Trial(late, with_h, elder, "loaded")
        self.assertEqual((trial.first, trial.second), ([("edition", 1), ("end", "plain")], [("edition", 1), ("lost", "h")]))
        self.assertEqual((trial.place, trial.moves(), trial.is_noticing), (1, 1, True))

    def test_equal_runs(self):
        client = Client.of(unit("start", "call f 1", "call f 1", "tell 1", "call f 1"))
        same = edition("routine f open", "tell 1")
        self.assertEqual([self.moves(same, same, client, limit) for limit in (0, 1, 2, 3, 4, 5)], [0, 1, 2, 2, 3, 3])

    def test_the_loading(self):
        elder, newer = [edition("wants w", "first x", "call w 1", "call w 2", f"tell {n}") for n in (1, 2)]
        trial = Trial(Client.of(unit("routine w", "end", "start", "end")), elder, newer, "loaded")
        self.assertEqual((trial.moves(), trial.place), (2, 0))


class NoticedAt(unittest.TestCase):
    def test_moments(self):
        elder, newer = edition("number n 1", "routine f open at 1 default", "tell 1"), edition(
            "number n 2", "routine f open at 1 default", "tell 1")
        client = Client.of(unit("start", "tell #n"))
        self.assertEqual(noticed_at(client=client, elder=elder, newer=newer), ("assembled",))
        self.assertEqual(noticed_at(client, elder, elder), ())
        moved = edition("number n 1", "routine f open at 1", "tell 1", "routine f open at 2 default", "tell 2")
        self.assertEqual(noticed_at(Client.of(unit("start", "call f 1")), elder, moved), ("assembled", "linked"))
        self.assertEqual(noticed_at(Client.of(unit("start", "call f 1")), elder, edition()), Moment.ALL)
        one, two = edition("cell p open 1"), edition("cell p open 1 1")
        self.assertEqual(noticed_at(Client.of(unit("start", "tell p.0")), one, two), ("loaded",))
        self.assertEqual(noticed_at(Client.of(unit("start", "tell q.0")), one, two), ())


class ByChance(unittest.TestCase):
    def test_as_the_words_say(self):
        chance = random.Random(141)
        count = {True: 0, False: 0}
        for _ in range(700):
            elder = some_edition(chance, most_rows=4)
            newer = changed(chance, elder)
            client = some_client(chance, elder, newer)
            noticed = []
            for moment in Moment.ALL:
                first, second = worlds(elder, newer, moment)
                for limit in (0, 1, 50, LIMIT):
                    trial = Trial(client, elder, newer, moment, limit=limit)
                    one, two = [outcome(client, world, limit=limit) for world in (first, second)]
                    self.assertEqual((trial.first, trial.second, trial.place), (one, two, unlike(one, two)))
                    self.assertIs(trial.is_served, is_served(client, elder))
                    self.assertIs(trial.is_noticing, trial.is_served and one != two)
                    self.assertEqual(trial.manners, manners_of(client, elder, newer))
                    self.assertEqual(trial.moves(), moves_by_words(client, elder, newer, moment, limit))
                    count[trial.is_noticing] += 1
                    if one[0][0] != "refused":
                        told = told_by(client, first, limit)
                        self.assertEqual(passings(told), passings_by_words(told))
                noticed += [moment] * trial.is_noticing
            self.assertEqual(noticed_at(client, elder, newer), tuple(noticed))
        self.assertGreater(min(count.values()), 200)


if __name__ == "__main__":
    unittest.main()
