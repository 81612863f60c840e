import itertools
import random
import unittest

from openlimit.errors import InvalidMachine, InvalidOperation, InvalidRecipe, ParseError
from openlimit.machines.machines import is_machine, make_machine
from openlimit.patterns.patterns import Empty, Letter, Pattern
from openlimit.patterns.rewriting import EXACT, ROUGH
from openlimit.tables.recipes import is_recipe, pump_recipe, then_recipe, word_recipe
from openlimit.text.formats import edit_text, machine_text, parse_edit, parse_machine, parse_recipe, recipe_text
from tests.helper import (
    BLOCK, LESS, NOTHING, TOTAL, WRONG, fitting_recipes, full_machine, listed, replaced, some_machine, some_patterns, spoiled,
)

A, B = Letter("a"), Letter("b")
SIGNS = "0123456789 ab,.-+=\n\tzAx"
EDITS = [
    ("set", "p", ~(A | B)), ("set", "abcdefgh", Empty()), ("remove", "q"), ("rename", "p", "q"), ("rename", "p", "p"),
    ("rewrite", "p", "spread", (0, 1), False), ("rewrite", "p", "loosen", (), True), ("rewrite", "q", "turn", (1,), True),
    ("rewrite", "q", "turn", (), False), ("promise", "p", "q", 1, None), ("promise", "q", "q", 30, 30), ("promise", "p", "q", 0, 0),
    ("drop", 0), ("drop", 99),
]
TEXTS = [
    "set p (a|b)*", "set abcdefgh ()", "remove q", "rename p q", "rename p p", "rewrite p spread 0.1", "rewrite p loosen - back",
    "rewrite q turn 1 back", "rewrite q turn -", "promise p q 1 -", "promise q q 30 30", "promise p q 0 0", "drop 0", "drop 99",
]


def machine_by_words(machine):
    """Return the text of the machine, written after the words of the document."""
    alphabet, size, starts, finals, steps = machine
    lists = [",".join(map(str, states)) if states else "-" for states in (starts, finals)]
    lines = ["machine %s %d starts %s finals %s" % (alphabet, size, *lists)]
    for state, letter, restart, cost, goal in steps:
        lines.append("%d %s %s%d %d" % (state, letter, "=" if restart else "+", cost, goal))
    return "\n".join(lines)


def changed(text):
    """Yield texts with one sign put in, taken out or exchanged, and with lines exchanged and repeated."""
    for at in range(len(text) + 1):
        yield text[:at] + text[at + 1:]
        for sign in SIGNS:
            yield text[:at] + sign + text[at:]
            yield text[:at] + sign + text[at + 1:]
    lines = text.split("\n")
    for at in range(len(lines)):
        yield "\n".join(lines[:at] + lines[at:at + 1] + lines[at:])
        yield "\n".join(lines[:at] + lines[at + 1:at + 2] + lines[at:at + 1] + lines[at + 2:])
        yield "\n".join(lines[:at] + lines[at + 1:])


class MachineTests(unittest.TestCase):
    def test_both_ways(self):
        machines = [BLOCK, LESS, TOTAL, full_machine(), make_machine("z", 1, starts=()), full_machine("ab", 3, 60)]
        for machine in machines + [some_machine(seed, "abc") for seed in range(100)]:
            text = machine_text(machine)
            self.assertEqual(text, machine_by_words(machine))
            again = parse_machine(text)
            self.assertEqual(again, machine)
            self.assertEqual(repr(again), repr(machine))

    def test_lines(self):
        self.assertEqual(
            machine_text(make_machine("ab", 2, (0, "a", 0, 1, 0), (0, "b", 1, 3, 1), starts=(0, 1))),
            "machine ab 2 starts 0,1 finals -\n0 a +1 0\n0 b =3 1",
        )
        self.assertEqual(machine_text(make_machine("a", 1, starts=(), finals=())), "machine a 1 starts - finals -")

    def check_text(self, text):
        try:
            found = parse_machine(text)
        except ParseError:
            return 0
        self.assertTrue(is_machine(found))
        self.assertEqual(machine_by_words(found), text)
        return 1

    def test_changed_texts(self):
        good = 0
        for machine in (BLOCK, LESS, make_machine("abz", 8, (7, "z", 1, 3, 0), (0, "a", 0, 0, 7), starts=(), finals=(0, 3, 7))):
            for text in changed(machine_by_words(machine)):
                good += self.check_text(text)
        self.assertGreater(good, 50)

    def test_all_near_machines_have_texts(self):
        for machine in itertools.islice(spoiled(LESS), 3000):
            if is_machine(machine):
                self.assertEqual(parse_machine(machine_by_words(machine)), machine)
            else:
                self.assertRaises(InvalidMachine, machine_text, machine)

    def test_wrong_texts(self):
        text = machine_text(BLOCK)
        wrong = [
            text + "\n", "\n" + text, text.replace("1", "01", 1), text.replace("+1", "+\u0661"), text.replace("0", "\u0660"),
            text.replace("+1", "+\u00b2"), text.replace("+1", "1"), text.replace("starts 0", "starts 0,0"), "", "machine",
            text.replace("starts 0", "starts ,"), text.replace("starts 0", "starts 0,"), text.replace("starts 0", "starts "),
            text.replace("+1", "+4"), text.replace("+1", "+-1"), text.replace("1", "1" * 5000, 1), text.upper(), "\n",
            "machine ab 2 starts 1,0 finals -", "machine ab 9 starts 0 finals -", "machine a 1 starts 0,1 finals -",
            "machine a 1 finals 0 starts 0", "machine ba 1 starts 0 finals 0", "machine a 0 starts - finals -",
        ]
        for value in wrong + WRONG + NOTHING + [BLOCK, [text], (text,), 0]:
            self.assertRaises(ParseError, parse_machine, value)
        lines = machine_text(full_machine()).split("\n")
        self.assertEqual(len(lines), 61)
        self.assertRaises(ParseError, parse_machine, "\n".join(lines + ["7 d =3 7", "7 d =3 8"]))
        self.assertRaises(ParseError, parse_machine, "\n".join(lines[:1] + lines[:0:-1]))


class RecipeTests(unittest.TestCase):
    def test_both_ways(self):
        recipes = fitting_recipes(random.Random(1), [BLOCK, LESS], 30) + [word_recipe("abcd" * 50)]
        recipes.append(then_recipe(word_recipe("a" * 199), (("letter", "b"),)))
        for recipe in recipes:
            text = recipe_text(recipe)
            self.assertEqual(text, "\n".join(" ".join(map(str, row)) for row in recipe))
            again = parse_recipe("abcd", text)
            self.assertEqual([again, repr(again)], [recipe, repr(recipe)])

    def test_400_rows(self):
        rows = (("letter", "q"),) + tuple(("pump", at) for at in range(399))
        self.assertEqual(parse_recipe("qz", recipe_text(rows)), rows)
        more = rows + (("then", 399, 0),)
        self.assertRaises(InvalidRecipe, recipe_text, more)
        self.assertRaises(ParseError, parse_recipe, "q", recipe_text(rows) + "\nthen 399 0")

    def test_changed_texts(self):
        recipe = then_recipe(pump_recipe(word_recipe("ab")), word_recipe("ba"))
        text = recipe_text(recipe)
        good = 0
        for other in changed(text):
            try:
                found = parse_recipe("ab", other)
            except ParseError:
                continue
            good += 1
            self.assertTrue(is_recipe("ab", found))
            self.assertEqual(recipe_text(found), other)
        self.assertGreater(good, 20)
        for near in itertools.islice(spoiled(recipe), 3000):
            if is_recipe("ab", near):
                self.assertEqual(parse_recipe("ab", recipe_text(near)), near)

    def test_wrong_values(self):
        five = tuple(("letter", letter) for letter in "abcde")
        for wrong in WRONG + NOTHING + [(), five, [("letter", "a")], (["letter", "a"],), "letter a", (("pump", 0),)]:
            self.assertRaises(InvalidRecipe, recipe_text, wrong)
        self.assertEqual(recipe_text(five[:4]), "letter a\nletter b\nletter c\nletter d")
        wrong = [
            "letter a\n", "\nletter a", "letter  a", "letter c", "letter", "pump 0", "letter a\npump 1", "letter a\npump 00", "",
            "letter a\npump -0", "letter a\npump 0 0", "letter a\nthen 0", "letter a\npump \u0660", "letter a\npump +0", "Letter a",
            "letter a\nthen 0 0 ", "letter a\n\npump 0", "letter a\npump " + "0" * 5000, "letter a\npump " + "1" * 5000,
        ]
        for value in wrong + WRONG + NOTHING + [("letter a",), ["letter a"], (("letter", "a"),)]:
            self.assertRaises(ParseError, parse_recipe, "ab", value)
        for alphabet in WRONG + NOTHING + ["", "ba", "abcde", ("a",)]:
            self.assertRaises(InvalidMachine, parse_recipe, alphabet, "letter a")
            self.assertRaises(InvalidMachine, parse_recipe, alphabet, None)
        self.assertEqual(parse_recipe("abcz", "letter a\nletter z\nthen 0 1"), (("letter", "a"), ("letter", "z"), ("then", 0, 1)))


class EditTests(unittest.TestCase):
    def test_both_ways(self):
        for edit, text in zip(EDITS, TEXTS):
            self.assertEqual(edit_text(edit), text)
            again = parse_edit(text)
            self.assertEqual([again, list(map(type, again))], [edit, list(map(type, edit))])
        for pattern in some_patterns(40, 60, 5, "abcd"):
            self.assertEqual(parse_edit(edit_text(("set", "p", pattern))), ("set", "p", pattern))
        for rule in EXACT + ROUGH:
            for path in ((), (0,), (1, 0, 1), (0,) * 9, (1,) * 30):
                for back in (False, True):
                    edit = ("rewrite", "p", rule, path, back)
                    told = "rewrite p %s %s%s" % (rule, ".".join(map(str, path)) or "-", " back" if back else "")
                    self.assertEqual([edit_text(edit), parse_edit(told)], [told, edit])
                    self.assertIs(parse_edit(told)[4], back)

    def test_changed_texts(self):
        good = 0
        for text in TEXTS:
            for other in list(changed(text)) + [text + " back", text + " ", " " + text, text.replace(" ", "  ", 1)]:
                try:
                    found = parse_edit(other)
                except ParseError:
                    continue
                good += 1
                self.assertEqual(edit_text(found), other)
        self.assertGreater(good, 100)

    def test_wrong_edits(self):
        wrong = [
            ("set", "P", A), ("set", "p", "a"), ("set", "p", None), ("remove", ""), ("remove", "ninechars"), ("rename", "p", "q1"),
            ("rewrite", "p", "none", (), False), ("rewrite", "p", "turn", (2,), False), ("rewrite", "p", "turn", [0], False),
            ("rewrite", "p", "turn", (True,), False), ("rewrite", "p", "turn", (), 0), ("rewrite", "p", "turn", (), None),
            ("rewrite", "p", "turn", (), "back"), ("promise", "p", "q", 31, None), ("promise", "p", "q", None, None),
            ("promise", "p", "q", True, None), ("promise", "p", "q", 0, 31), ("promise", "p", "q", 0, False), ("drop", 100),
            ("drop", -1), ("drop", True), ("drop", "0"), ("drop",), ("put", "p"), (), ("set", "p"), ("remove", "p", "q"),
        ]
        for edit in EDITS:
            wrong += list(listed(edit)) + [edit + (0,), edit[:-1], (edit,)]
            for value in WRONG + ["P"]:
                for near in replaced(edit, value):
                    if edit_is_right(near):
                        self.assertEqual(parse_edit(edit_text(near)), near)
                    else:
                        wrong.append(near)
        for edit in wrong + WRONG + NOTHING:
            self.assertRaises(InvalidOperation, edit_text, edit)

    def test_wrong_texts(self):
        wrong = [
            "", " ", "set", "rewrite", "rewrite p", "rewrite p turn", "rewrite p turn back", "rewrite p turn 0 forth",
            "rewrite p turn 0 back back", "rewrite p turn 0.", "rewrite p turn .0", "rewrite p turn 0..1", "rewrite p turn 00",
            "rewrite p turn 2", "rewrite p turn -1", "rewrite p turn  back", "rewrite p turn -.0", "promise p q - -", "promise p q 1",
            "promise p q 01 -", "promise p q 31 -", "promise p q 1 31", "promise p q 1 None", "drop 100", "drop 00", "drop -", "drop \u0661",
            "set p (a|b)* ", "set p (a| b)", "set p abc", "set P a", "remove ninechars", "remove p\n", "\nremove p", "drop " + "9" * 5000,
        ]
        for value in wrong + WRONG + NOTHING + [("remove p",), EDITS[0], ["drop 0"], 0]:
            self.assertRaises(ParseError, parse_edit, value)
        self.assertEqual(parse_edit("rename back back"), ("rename", "back", "back"))
        self.assertEqual(parse_edit("set back a"), ("set", "back", Pattern.read("a")))


def edit_is_right(edit):
    """Return whether this, made of an edit by one other part that is not None, is an edit with a text."""
    if not isinstance(edit[0], str) or edit[0] not in ("set", "remove", "rename", "rewrite", "promise", "drop"):
        return False
    kinds = {"rewrite": (3, 4), "promise": (3, 4), "drop": (1,), "set": (2,)}.get(edit[0], ())
    for place, part in enumerate(edit[1:], 1):
        if place not in kinds:
            if not isinstance(part, str) or not part.isalpha() or not part.islower():
                return False
    if edit[0] == "rewrite":
        path_is_right = type(edit[3]) is tuple and all(type(index) is int and index in (0, 1) for index in edit[3])
        return edit[2] in EXACT + ROUGH and type(edit[4]) is bool and path_is_right
    if edit[0] == "set":
        return isinstance(edit[2], Pattern)
    numbers = [edit[place] for place in kinds]
    return all(type(number) is int and 0 <= number <= 30 or number is None and edit[0] == "promise" for number in numbers) \
        if edit[0] == "promise" else all(type(number) is int and 0 <= number <= 99 for number in numbers)


if __name__ == "__main__":
    unittest.main()
