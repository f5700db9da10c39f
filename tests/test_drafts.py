"""Drafts (10.7, 10.8)."""

import random
import unittest

from quietedition.drafts import Draft
from quietedition.editions import Edition
from quietedition.errors import BadMend, BadText
from tests.making import changed, edition, some_edition
from tests.mending import Unknown, is_mend_by_words, mended_lines, some_mend

ELDER = edition("number a 1", "number b 2", "cell p open 3", "cell q hidden 4", "wants w", "first one", "tell 1",
                "routine f guarded at 2 default", "tell 5", "call w it", "routine f open at 3", "end", "routine box open",
                "tell 7", "first two after one", "end")
NEWER = edition("number b 9", "cell p hidden 8 8", "routine f open at 2", "end", "routine f hidden at 4 default", "end",
                "routine box hidden", "tell 8", "first two", "tell 3")
BARE = edition()
NO_MENDS = (None, True, 0, 7, [], (), ["guard f"], ("guard f",), "", " ", "guard", "guard f ", " guard f", "guard  f",
            "guard f g", "guard F", "guard 1f", "guard abcdefghijklm", "guard f\n", "Guard f", "grd f", "forward f",
            "forward f g h", "forward f  g", "forward f 1", "member f", "member f 10", "member f a", "member f -1",
            "member f 01", "member f 1 ", "member 1 f", "default f 0", "default f", "default f 10", "default f x",
            "default f \u0661", "member f \u0661", "number", "number 1", "number a 1", "cell p open 3", "first", "first one after two",
            "wants", "wants w w", "unwants", "unwants 1", "edition e", "tell 1", "hide $f", "open f.0", "routine f open",
            "hide f\tg", "member\tf 1")


def text_of(made, *mends, elder=ELDER):
    draft = Draft(elder, made)
    for mend in mends:
        draft.apply(mend)
    return draft.text().split("\n")


def lines_of(made, old, new):
    """The lines of an edition with some text replaced."""
    text = made.text()
    assert old in text
    return text.replace(old, new, 1).split("\n")


class EachKind(unittest.TestCase):
    def check(self, mend, wanted, made=NEWER, elder=ELDER):
        self.assertEqual(text_of(made, mend, elder=elder), wanted)

    def unknown(self, mend, made=NEWER, elder=ELDER):
        draft = Draft(elder, made)
        with self.assertRaises(BadMend) as caught:
            draft.apply(mend)
        self.assertEqual((caught.exception.at, caught.exception.cause), (0, "unknown"))
        self.assertEqual((draft.text(), draft.applied), (made.text(), ()))

    def test_forward(self):
        self.check("forward x f", NEWER.text().split("\n") + ["routine x open", "call f it"])
        self.check("forward none nothing", ["edition e", "routine none open", "call nothing it"], BARE, BARE)
        self.check("forward f f", NEWER.text().split("\n") + ["routine f open", "call f it"])

    def test_accesses(self):
        for word, access in (("guard", "guarded"), ("open", "open"), ("hide", "hidden")):
            wanted = NEWER.text().replace("f open at 2", f"f {access} at 2").replace("f hidden at 4", f"f {access} at 4")
            self.check(f"{word} f", wanted.split("\n"))
            self.check(f"{word} box", lines_of(NEWER, "routine box hidden", f"routine box {access}"))
            for name in ("none", "p", "b", "two", "w", "one"):
                self.unknown(f"{word} {name}")
            # A name that only the elder edition has is not there.
            self.unknown(f"{word} f", BARE)

    def test_members_and_cells_of_one_name(self):
        made = edition("number f 1", "cell f hidden 2", "wants g", "routine f open", "tell f.0", "first f", "tell #f")
        self.check("hide f", lines_of(made, "routine f open", "routine f hidden"), made)
        self.check("guard f", lines_of(made, "routine f open", "routine f guarded"), made)
        self.check("open f", lines_of(made, "routine f open", "routine f open"), made)
        other = edition("number f 8", "cell f open 9 9", "routine f guarded", "end", "first f", "end")
        self.check("number f", lines_of(made, "number f 1", "number f 8"), made, other)
        self.check("cell f", lines_of(made, "cell f hidden 2", "cell f open 9 9"), made, other)
        self.check("member f 0", lines_of(made, "routine f open\ntell f.0", "routine f guarded\nend"), made, other)
        self.check("first f", lines_of(made, "first f\ntell #f", "first f\nend"), made, other)

    def test_numbers(self):
        self.check("number b", lines_of(NEWER, "number b 9", "number b 2"))
        self.check("number a", lines_of(NEWER, "number b 9", "number b 9\nnumber a 1"))
        self.check("number a", ["edition e", "number a 1"], BARE)
        made = edition("cell p open 1", "wants w", "first x", "end")
        self.check("number a", lines_of(made, "edition e", "edition e\nnumber a 1"), made)
        for name in ("none", "p", "f", "w"):
            self.unknown(f"number {name}")
        self.unknown("number b", NEWER, BARE)

    def test_cells(self):
        self.check("cell p", lines_of(NEWER, "cell p hidden 8 8", "cell p open 3"))
        self.check("cell q", lines_of(NEWER, "cell p hidden 8 8", "cell p hidden 8 8\ncell q hidden 4"))
        self.check("cell q", ["edition e", "cell q hidden 4"], BARE)
        made = edition("number x 1", "number y 2", "wants w", "first x", "end")
        self.check("cell q", lines_of(made, "number y 2", "number y 2\ncell q hidden 4"), made)
        made = edition("wants w", "first x", "end")
        self.check("cell p", lines_of(made, "edition e", "edition e\ncell p open 3"), made)
        for name in ("none", "a", "f", "w"):
            self.unknown(f"cell {name}")
        self.unknown("cell p", NEWER, BARE)

    def test_members(self):
        self.check("member f 2", lines_of(NEWER, "routine f open at 2\nend",
                                          "routine f guarded at 2 default\ntell 5\ncall w it"))
        self.check("member f 3", NEWER.text().split("\n") + ["routine f open at 3", "end"])
        self.check("member box 0", lines_of(NEWER, "routine box hidden\ntell 8", "routine box open\ntell 7"))
        self.check("member box 0", ["edition e", "routine box open", "tell 7"], BARE)
        for mend in ("member f 0", "member f 4", "member f 9", "member none 0", "member one 0", "member box 1",
                     "member w 0", "member p 0"):
            self.unknown(mend)

    def test_first_blocks(self):
        self.check("first two", lines_of(NEWER, "first two\ntell 3", "first two after one\nend"))
        self.check("first one", NEWER.text().split("\n") + ["first one", "tell 1"])
        self.check("first one", ["edition e", "first one", "tell 1"], BARE)
        for name in ("none", "f", "w"):
            self.unknown(f"first {name}")
        self.unknown("first two", NEWER, BARE)

    def test_defaults(self):
        moved = NEWER.text().replace("f open at 2", "f open at 2 default").replace("at 4 default", "at 4")
        self.check("default f 2", moved.split("\n"))
        self.check("default f 4", NEWER.text().split("\n"))
        for mend in ("default f 3", "default box 1", "default none 1", "default two 2"):
            self.unknown(mend)
        # Members of other names stay what they are, and first blocks of the same name.
        made = edition("routine g open at 1 default", "end", "first f", "end", "routine f open at 1", "end")
        self.check("default f 1", lines_of(made, "routine f open at 1", "routine f open at 1 default"), made)

    def test_wants(self):
        self.check("wants v", lines_of(NEWER, "cell p hidden 8 8", "cell p hidden 8 8\nwants v"))
        self.check("wants v", ["edition e", "wants v"], BARE, BARE)
        self.check("wants v", lines_of(ELDER, "wants w", "wants w\nwants v"), ELDER)
        self.check("wants w", lines_of(ELDER, "wants w", "wants w\nwants w"), ELDER)
        self.check("unwants w", lines_of(ELDER, "wants w\n", ""), ELDER)
        for name in ("w", "p", "f"):
            self.unknown(f"unwants {name}")
        two = edition("wants v", "wants w")
        self.check("unwants v", ["edition e", "wants w"], two)
        self.assertEqual(text_of(two, "wants v", "wants v", "unwants v"),
                         ["edition e", "wants w", "wants v", "wants v"])

    def test_no_form(self):
        draft = Draft(ELDER, NEWER)
        for thing in NO_MENDS:
            self.assertFalse(is_mend_by_words(thing))
            with self.assertRaises(BadMend) as caught:
                draft.apply(thing)
            self.assertEqual((caught.exception.at, caught.exception.cause), (0, "words"), thing)
        self.assertEqual((draft.applied, draft.text()), ((), NEWER.text()))

    def test_forms_that_are_right(self):
        for mend in ("guard abcdefghijkl", "member f 0", "member f 9", "default a9 9", "wants end", "unwants it",
                     "forward guard open", "first first", "open open", "hide late"):
            self.assertTrue(is_mend_by_words(mend))
            try:
                self.assertIsNone(Draft(ELDER, NEWER).apply(mend))
            except BadMend as error:
                self.assertEqual(error.cause, "unknown")


class Drafts(unittest.TestCase):
    def test_what_was_applied(self):
        draft = Draft(elder=ELDER, newer=NEWER)
        self.assertEqual((draft.applied, draft.text(), draft.edition()), ((), NEWER.text(), NEWER))
        self.assertIsNone(draft.apply(line="hide box"))
        for wrong, cause in (("hide none", "unknown"), ("hide", "words"), (None, "words"), ("number none", "unknown")):
            text = draft.text()
            with self.assertRaises(BadMend) as caught:
                draft.apply(wrong)
            self.assertEqual((caught.exception.at, caught.exception.cause), (1, cause))
            self.assertEqual((draft.applied, draft.text()), (("hide box",), text))
        draft.apply("hide box")
        self.assertEqual(draft.applied, ("hide box", "hide box"))
        with self.assertRaises(BadMend) as caught:
            draft.apply("guard")
        self.assertEqual(caught.exception.at, 2)

    def test_the_text_is_read_only_at_the_end(self):
        draft = Draft(ELDER, NEWER)
        draft.apply("forward f box")
        with self.assertRaises(BadMend) as caught:
            draft.edition()
        self.assertEqual((caught.exception.at, caught.exception.cause), (1, "mixed"))
        self.assertIsInstance(caught.exception.__cause__, BadText)
        draft.apply("wants box")
        with self.assertRaises(BadMend) as caught:
            draft.edition()
        self.assertEqual((caught.exception.at, caught.exception.cause), (2, "wanted"))
        # What is wrong in between may be right in the end.
        draft = Draft(ELDER, NEWER)
        draft.apply("first two")
        with self.assertRaises(BadMend) as caught:
            draft.edition()
        self.assertEqual(caught.exception.cause, "after")
        draft.apply("first one")
        self.assertEqual([first.name for first in draft.edition().firsts], ["two", "one"])
        self.assertEqual(draft.edition().text(), draft.text())

    def test_each_cause(self):
        full = edition("number x 1", "number y 2", "number z 3", "cell c open 1 1", "wants u", "wants v", "routine r open",
                       "end", "routine s open at 1", "end", "routine s open at 2", "end", "routine t open at 1 default",
                       "end", "first g", "end", "first h", "end")
        for mends, cause in ((["number a"], "many"), (["cell p"], "many"), (["wants z"], "many"), (["wants u"], "many"),
                             (["unwants u", "wants v"], "twice"), (["first one"], "many"), (["forward x r"], "many"),
                             (["unwants u", "wants r"], "wanted")):
            draft = Draft(ELDER, full)
            for mend in mends:
                draft.apply(mend)
            with self.assertRaises(BadMend) as caught:
                draft.edition()
            self.assertEqual((caught.exception.at, caught.exception.cause), (len(mends), cause))
        elder = edition("routine f open at 1", "end", "routine f open at 2 default", "call g 1", "routine g open", "end")
        for mends, cause in ((["member f 2", "member f 1"], "unknown"), (["forward g f", "member f 2"], "ring"),
                             (["forward g g"], "ring"), (["forward g h"], "unknown"), (["forward g r", "forward g r"], "twice")):
            draft = Draft(elder, edition("routine r open", "end"))
            for mend in mends:
                draft.apply(mend)
            with self.assertRaises(BadMend) as caught:
                draft.edition()
            self.assertEqual(caught.exception.cause, cause, mends)

    def test_the_name_stays(self):
        elder = Edition.read("edition old\nnumber a 1")
        draft = Draft(elder, Edition.read("edition new"))
        draft.apply("number a")
        self.assertEqual(draft.edition().text(), "edition new\nnumber a 1")

    def test_editions_are_not_changed(self):
        before = ELDER.text(), NEWER.text()
        text_of(NEWER, "hide f", "number a", "cell q", "member f 3", "first one", "default f 3", "wants v", "forward k f",
                "unwants v")
        self.assertEqual((ELDER.text(), NEWER.text()), before)

    def test_mends_that_stand_for_all_of_the_elder_text(self):
        elder = edition("number a 1", "cell p open 3", "routine f guarded at 2 default", "tell 5", "first one", "end")
        lines = text_of(BARE, "cell p", "first one", "member f 2", "number a", elder=elder)
        self.assertEqual(lines, ["edition e", "number a 1", "cell p open 3", "first one", "end",
                                 "routine f guarded at 2 default", "tell 5"])

    def test_by_chance(self):
        """The lines against mends over lines."""
        chance = random.Random(221)
        causes = {}
        applied = 0
        for _ in range(1500):
            elder = some_edition(chance)
            newer = changed(chance, elder)
            lines = newer.text().split("\n")
            draft = Draft(elder, newer)
            for _ in range(chance.randrange(1, 6)):
                mend = some_mend(chance, elder, newer)
                self.assertTrue(is_mend_by_words(mend), mend)
                try:
                    lines = mended_lines(elder.text().split("\n"), lines, mend)
                except Unknown:
                    with self.assertRaises(BadMend) as caught:
                        draft.apply(mend)
                    self.assertEqual((caught.exception.at, caught.exception.cause), (len(draft.applied), "unknown"))
                else:
                    draft.apply(mend)
                    applied += 1
                self.assertEqual(draft.text().split("\n"), lines)
            try:
                wanted = Edition.read("\n".join(lines))
            except BadText as wrong:
                with self.assertRaises(BadMend) as caught:
                    draft.edition()
                self.assertEqual((caught.exception.at, caught.exception.cause), (len(draft.applied), wrong.cause))
                causes[wrong.cause] = causes.get(wrong.cause, 0) + 1
            else:
                self.assertEqual(draft.edition(), wanted)
        self.assertGreater(applied, 1500)
        self.assertGreater(len(causes), 5)


if __name__ == "__main__":
    unittest.main()
