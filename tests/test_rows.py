"""Values and rows as data and as text (1.3, 1.4)."""

import unittest

from quietedition.rows import Call, End, Put, Row, Same, Tell, There, value_text

SEVEN = ("number", 7)
BOX = ("place", "box", 0)
TURN = ("own", "turn")
MOST = ("named", "most")
IT = ("argument",)


class Values(unittest.TestCase):
    def test_text(self):
        self.assertEqual([value_text(value) for value in (SEVEN, IT, BOX, TURN, MOST)],
                         ["7", "it", "box.0", "$turn", "#most"])
        self.assertEqual(value_text(("number", -999999999)), "-999999999")
        self.assertEqual(value_text(value=("place", "a1", 9)), "a1.9")


def rows():
    return [Tell(SEVEN), Put(BOX, IT), Put(TURN, MOST), Same(BOX, SEVEN, 2), There("ask", 1),
            Call("put", MOST, 0), Call("put", IT, 3), End()]


class Rows(unittest.TestCase):
    def test_text(self):
        self.assertEqual([row.text() for row in rows()],
                         ["tell 7", "set box.0 it", "set $turn #most", "same box.0 7 else 2", "there ask else 1",
                          "call put #most", "call put it at 3", "end"])

    def test_operands(self):
        self.assertEqual([row.operands() for row in rows()],
                         [[SEVEN], [BOX, IT], [TURN, MOST], [BOX, SEVEN], [], [MOST], [IT], []])

    def test_operands_are_new_lists(self):
        for row in rows():
            row.operands().append(SEVEN)
            self.assertNotIn(SEVEN, row.operands()[2:])
            self.assertEqual(row.operands(), row.operands())
        for row in (There("ask", 1), End()):
            row.operands().append(SEVEN)
            self.assertEqual(row.operands(), [])

    def test_fields(self):
        row = Put(BOX, IT)
        self.assertEqual((row.place, row.value), (BOX, IT))
        row = Same(left=BOX, right=SEVEN, skip=2)
        self.assertEqual((row.left, row.right, row.skip), (BOX, SEVEN, 2))
        row = There(name="ask", skip=1)
        self.assertEqual((row.name, row.skip), ("ask", 1))
        row = Call(name="put", value=MOST)
        self.assertEqual((row.name, row.value, row.tag), ("put", MOST, 0))
        self.assertEqual(Call("put", MOST, tag=4).tag, 4)
        self.assertEqual(Tell(value=SEVEN).value, SEVEN)

    def test_equal_by_class_and_fields(self):
        for at, row in enumerate(rows()):
            self.assertEqual([other for other in range(8) if rows()[other] == row], [at])
            self.assertNotEqual(row, row.text())
            self.assertIsInstance(row, Row)
        pairs = [(Tell(SEVEN), Tell(IT)), (Put(BOX, IT), Put(TURN, IT)), (Put(BOX, IT), Put(BOX, SEVEN)),
                 (Same(BOX, IT, 1), Same(IT, IT, 1)), (Same(BOX, IT, 1), Same(BOX, BOX, 1)),
                 (Same(BOX, IT, 1), Same(BOX, IT, 2)), (There("a", 1), There("b", 1)),
                 (There("a", 1), There("a", 2)), (Call("a", IT), Call("b", IT)),
                 (Call("a", IT), Call("a", SEVEN)), (Call("a", IT), Call("a", IT, 1))]
        for one, two in pairs:
            self.assertNotEqual(one, two)
        self.assertEqual(Call("a", IT), Call("a", IT, 0))

    def test_the_base_class(self):
        self.assertEqual((Row().text(), Row().operands(), Row()), ("", [], Row()))
        for other in rows() + ["", None]:
            self.assertNotEqual(Row(), other)
            self.assertNotEqual(other, Row())

    def test_a_list_that_is_passed_is_copied(self):
        value = ["number", 7]
        made = [Tell(value), Put(value, value), Same(value, value, 1), Call("f", value)]
        value[1] = 8
        for row in made:
            self.assertEqual(row.operands(), [SEVEN] * len(row.operands()))

    def test_with_operands(self):
        for row in rows():
            self.assertEqual(row.with_operands(row.operands()), row)
            others = [("number", 100 + k) for k in range(len(row.operands()))]
            changed = row.with_operands(others)
            self.assertEqual(changed.operands(), others)
            self.assertEqual(changed.with_operands(row.operands()), row)


if __name__ == "__main__":
    unittest.main()
