import inspect
import itertools
import re
import unittest

from eggfloors.errors import BadLine
from eggfloors.lines import read, shown
from eggfloors.plans import plan
from eggfloors.sums import sum_plan
from reckoning import refused, right_trees, small_plans, upward

# Every sign that a text may have.
SIGNS = "\t\n" + "".join(chr(code) for code in range(32, 127) if chr(code) != "%")
NUMBER = "(?:[0-9]|[1-5][0-9]|60)"
TOLD = re.compile(f"={NUMBER}(?![0-9])")
# A sign that no text has stands for a tree that was found.
TREE = "\u2020"
DROP = re.compile(f"(?<![0-9]){NUMBER}[(]{TREE},{TREE}[)]")
BY_HAND = {
    "=0": ("told", 0),
    "=60": ("told", 60),
    "2(1(=0,=1),=2)": ("drop", 2, ("drop", 1, ("told", 0), ("told", 1)), ("told", 2)),
    "0(=60,=9)": ("drop", 0, ("told", 60), ("told", 9)),
    "10(=7,10(=7,=7))": ("drop", 10, ("told", 7), ("drop", 10, ("told", 7), ("told", 7))),
}


def well_written(text):
    """Whether the text is a plan as it is written: trees found are crossed out till nothing is left but one."""
    left = TOLD.sub(TREE, text)
    while DROP.search(left):
        left = DROP.sub(TREE, left)
    return left == TREE


def leaning(depth, broken):
    """A tree that goes down by one side alone."""
    tree = ("told", 60)
    for step in range(depth):
        other = ("told", step % 61)
        tree = ("drop", 60 - step % 61, tree, other) if broken else ("drop", step % 61, other, tree)
    return tree


def trees():
    """Trees right and not, large and deep."""
    told = [tree for tree, drops, floors, things in small_plans()]
    told += [tree for tree, floors, things in right_trees()]
    told += [plan(floors, things) for floors in range(0, 61, 5) for things in (1, 2, 3, 12)]
    told += [sum_plan(floors, things) for floors in range(0, 61, 5) for things in (1, 2, 3, 12)]
    told += [("drop", floor, ("told", 60 - floor), ("told", floor)) for floor in range(61)]
    # 79 drops and what is told below them are 80 tuples within one another, 159 in all.
    told += [leaning(depth, broken) for depth in (1, 2, 40, 79) for broken in (True, False)]
    # 199 tuples: a tree of two forms has an odd number of them.
    told += [folded(99, floor) for floor in (0, 9, 10, 59, 60)]
    return told


def folded(drops, floor):
    """An even tree of so many drops, with one floor everywhere."""
    if drops == 0:
        return ("told", floor)
    below = (drops - 1) // 2
    return ("drop", floor, folded(below, floor), folded(drops - 1 - below, floor))


class ShownTest(unittest.TestCase):
    def test_arguments(self):
        self.assertEqual(list(inspect.signature(shown).parameters), ["tree"])
        self.assertEqual(shown(tree=("told", 0)), "=0")

    def test_by_hand(self):
        for text, tree in BY_HAND.items():
            self.assertEqual(shown(tree), text)
        self.assertEqual(shown(plan(2, 2)), "1(=0,2(=1,=2))")

    def test_each_floor(self):
        for floor in range(61):
            self.assertEqual(shown(("told", floor)), "=" + str(floor))
            self.assertEqual(shown(("drop", floor, ("told", floor), ("told", 0))), f"{floor}(={floor},=0)")

    def test_deep_trees_by_their_parts(self):
        self.assertEqual(shown(upward(0, 60)), "".join(f"{floor}(={floor - 1}," for floor in range(1, 61))
                         + "=60" + ")" * 60)
        tree = ("told", 5)
        for step in range(79):
            tree = ("drop", 7, tree, ("told", 6))
        self.assertEqual(shown(tree), "7(" * 79 + "=5" + ",=6)" * 79)

    def test_what_is_shown_is_well_written_and_read_to_the_same_tree(self):
        for tree in trees():
            text = shown(tree)
            self.assertIs(type(text), str)
            self.assertTrue(well_written(text), text)
            self.assertEqual(read(text), tree)

    def test_what_is_handed_in_stays_as_it_was(self):
        for tree in trees():
            before = repr(tree)
            self.assertEqual(shown(tree), shown(tree))
            self.assertEqual(repr(tree), before)


class ReadTest(unittest.TestCase):
    def test_arguments(self):
        self.assertEqual(list(inspect.signature(read).parameters), ["text"])
        self.assertEqual(read(text="=0"), ("told", 0))

    def test_by_hand(self):
        for text, tree in BY_HAND.items():
            self.assertEqual(read(text), tree)

    def test_of_tuples_texts_and_whole_numbers(self):
        for tree in trees():
            self.kinds(read(shown(tree)))

    def kinds(self, tree):
        self.assertIs(type(tree), tuple)
        self.assertIs(type(tree[1]), int)
        self.assertIn((tree[0], len(tree)), (("told", 2), ("drop", 4)))
        for below in tree[2:]:
            self.kinds(below)

    def check(self, text):
        if well_written(text):
            self.assertEqual(shown(read(text)), text)
        else:
            refused(self, BadLine, read, text)

    def test_numbers(self):
        texts = [str(number) for number in range(130)] + ["00", "01", "007", "060", "600", "6" * 40, "0" * 40]
        for number in texts:
            self.assertEqual(well_written("=" + number), number in texts[:61])
            for text in (f"={number}", f"{number}(=0,=1)", f"1(={number},=1)", f"1(=0,={number})",
                         f"1(=0,{number}(=1,=2))", f"1({number}(=1,=2),=0)"):
                self.check(text)

    def test_a_sign_more_a_sign_less_another_sign(self):
        for text in list(BY_HAND) + [shown(plan(5, 2))]:
            for at in range(len(text) + 1):
                self.check(text[:at] + text[at + 1:])
                for sign in SIGNS:
                    self.check(text[:at] + sign + text[at:])
                    self.check(text[:at] + sign + text[at + 1:])

    def test_two_signs_changed_round(self):
        for text in list(BY_HAND) + [shown(plan(5, 2))]:
            for at in range(len(text) - 1):
                self.check(text[:at] + text[at + 1] + text[at] + text[at + 2:])

    def test_a_text_cut_short_or_twice(self):
        for tree in trees():
            text = shown(tree)
            refused(self, BadLine, read, text[:-1] if tree[0] == "drop" else "=")
            for wrong in (text + text, text + "," + text, text + ")", "(" + text, "(" + text + ")", text + "=0",
                          "=" + text, text + "(" + text + "," + text + ")", "1(" + text + ")",
                          "1(" + text + "," + text, "1" + text + "," + text + ")", "(" + text + "," + text + ")",
                          "1(" + text + "," + text + "," + text + ")", "1(," + text + ")", "1(" + text + ",)"):
                refused(self, BadLine, read, wrong)

    def test_blanks_tabs_line_ends_and_signs_anywhere(self):
        for text in list(BY_HAND) + [shown(plan(60, 3))]:
            for at in range(len(text) + 1):
                for more in (" ", "\t", "\n", "\n\n", "+", "-", "_", ".", "=", "'", "\\"):
                    refused(self, BadLine, read, text[:at] + more + text[at:])

    def test_texts_without_a_plan(self):
        for text in ("", " ", "\n", "\t", "0", "60", "=", "(", ")", ",", "()", "(,)", "1()", "1(,)", "told", "t", "n",
                     "n(t,t)", "=n", "1(t,t)", "None", "('told', 0)"):
            refused(self, BadLine, read, text)

    def test_every_short_text(self):
        for length in range(6):
            for signs in itertools.product("=016(,) t", repeat=length):
                self.check("".join(signs))

    def test_every_text_of_a_drops_length(self):
        taken = []
        for signs in itertools.product("=3(,)", repeat=8):
            text = "".join(signs)
            if well_written(text):
                taken.append(text)
                self.assertEqual(read(text), ("drop", 3, ("told", 3), ("told", 3)))
            else:
                self.assertRaises(BadLine, read, text)
        self.assertEqual(taken, ["3(=3,=3)"])

    def test_the_deepest_texts_of_a_thousand_signs(self):
        # Six signs a drop, the least there can be, and two for what is told at the end.
        for text in ("1(=0," * 166 + "=1" + ")" * 166, "1(" * 166 + "=1" + ",=2)" * 166):
            self.assertEqual(len(text), 998)
            self.assertEqual(shown(read(text)), text)
            refused(self, BadLine, read, text + ")")
            refused(self, BadLine, read, text[:-1])
            refused(self, BadLine, read, "1(" + text)

    def test_the_largest_texts_of_a_thousand_signs(self):
        text = shown(folded(166, 1))
        self.assertEqual(len(text), 998)
        self.assertEqual(read(text), folded(166, 1))
        refused(self, BadLine, read, text + "=1")

    def test_somewhat_beyond_the_bounds_nothing_is_refused(self):
        for broken in (True, False):
            text = shown(leaning(190, broken))
            self.assertGreater(len(text), 1000)
            self.assertEqual(read(text), leaning(190, broken))

    def test_bad_texts_of_a_thousand_signs(self):
        for sign in SIGNS:
            refused(self, BadLine, read, sign * 1000)
            refused(self, BadLine, read, "=" + sign * 999)
            refused(self, BadLine, read, "=0" + sign * 998)
        for some in ("1(", "1(=0,", "=0", "=0,", ",=0)", "0(", "()", "(,)", "=0)", "60(", "1(=0,=1)"):
            refused(self, BadLine, read, (some * 1000)[:1000])
        for text in ("=" + "0" * 999, "=" + "6" * 999, "9" * 990 + "(=0,=1)", "1" + "(" * 500 + "=0" + ")" * 497,
                     "1(=0," * 200, "=0" + " " * 998, " " * 998 + "=0", "=0" + "\n" * 998):
            self.assertLessEqual(len(text), 1000)
            refused(self, BadLine, read, text)

    def test_a_refusal_leaves_nothing_behind(self):
        refused(self, BadLine, read, "1(=0,")
        self.assertEqual(read("=1"), ("told", 1))
        refused(self, BadLine, read, "=1)")


if __name__ == "__main__":
    unittest.main()
