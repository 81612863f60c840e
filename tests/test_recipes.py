"""[5.1]: recipes."""

import random
import unittest

from openlimit import errors
from openlimit.machines.machines import make_machine
from openlimit.tables import recipes
from openlimit.tables.grades import is_idempotent, product, pumped, table_of
from openlimit.tables.recipes import (
    ceiling, fits, is_recipe, pump_recipe, tables_in, then_recipe, word_recipe,
)
from tests.helper import BLOCK, LESS, NOTHING, TOTAL, WRONG, fitting_recipes, full_machine, some_machine, spoiled

BOTH = (("letter", "a"), ("pump", 0), ("letter", "b"), ("pump", 2), ("then", 1, 3))
A, B = (("letter", "a"),), (("letter", "b"),)
# A letter may stand 400 times.
LONG = A * 400
# Two steps of a cycle are needed to come back, so a pumped letter does not fit.
SWAP = make_machine("ab", 2, (0, "a", 0, 0, 1), (1, "a", 0, 0, 0), (0, "b", 0, 1, 0), finals=(0,))


def wrong_recipes():
    """Yield values that look like recipes, and are none of any alphabet."""
    yield from spoiled(BOTH)
    rows = [
        ("letter", "A"), ("letter", "ab"), ("letter", ""), ("letter", 0), ("letter",), ("letter", "a", "b"), ("pump",),
        ("pump", 0, 0), ("then", 0), ("then", 0, 0, 0), ("then", 0, 5), ("then", 5, 0), ("pump", 5), ("pump", 6),
        ("pump", -1), ("pump", True), ("then", False, 0), ("then", 0, "0"), ("pump", "a"), ("times", 0, 2),
        ("word", "a"), ("", 0), (0, 0), ("pump", (0,)), (), "pump", ["pump", 0], ("pump", [0]), ("Pump", 0),
    ]
    for row in rows:
        yield BOTH + (row,)
        yield (row,)
    yield ()
    yield LONG + (("pump", 0),)


def tables_by_rows(recipe, machine):
    """Return the tables of the rows one by one, None behind a pump that does not fit."""
    found = []
    for row in recipe:
        if row[0] == "letter":
            found.append(table_of(machine, row[1]))
        elif row[0] == "then":
            found.append(product(found[row[1]], found[row[2]]))
        elif is_idempotent(found[row[1]]):
            found.append(pumped(found[row[1]]))
        else:
            return None
    return found


class FormTests(unittest.TestCase):
    def test_recipes(self):
        self.assertEqual(recipes.MAX_ROWS, 400)
        for recipe in (BOTH, A, B, LONG, word_recipe("ab"), LONG[:399] + (("then", 398, 0),)):
            self.assertIs(is_recipe("ab", recipe), True)
            self.assertIs(is_recipe("abcz", recipe), True)
            self.assertIs(is_recipe("c", recipe), False)
        self.assertIs(is_recipe("a", BOTH), False)
        self.assertIs(is_recipe("ab", LONG + A), False)

    def test_wrong_values(self):
        for wrong in wrong_recipes():
            if wrong not in (A, BOTH[:-1]):
                self.assertIs(is_recipe("ab", wrong), False, wrong)
        self.assertIs(is_recipe("ab", (("pump", 0),)), False)
        self.assertIs(is_recipe("ab", A + (("pump", 1),)), False)
        self.assertIs(is_recipe("ab", A + (("then", 0, 1),)), False)
        self.assertIs(is_recipe("ab", A + (("then", 0, 2), ("letter", "b"))), False)

    def test_alphabets(self):
        for wrong in WRONG + NOTHING + ["", "ba", "aa", "abcde", "aB", ("a",), 1]:
            self.assertRaises(errors.InvalidMachine, is_recipe, wrong, None)
            self.assertRaises(errors.InvalidMachine, is_recipe, wrong, A)


class MakingTests(unittest.TestCase):
    def test_words(self):
        self.assertEqual(word_recipe("z"), (("letter", "z"),))
        self.assertEqual(
            word_recipe("aba"), (("letter", "a"), ("letter", "b"), ("then", 0, 1), ("letter", "a"), ("then", 2, 3))
        )
        longest = word_recipe("abcd" * 50)
        self.assertEqual([len(longest), longest[-2:]], [399, (("letter", "d"), ("then", 396, 397))])
        self.assertIs(is_recipe("abcd", longest), True)
        self.assertIs(is_recipe("abyz", word_recipe("zyab")), True)

    def test_wrong_words(self):
        for wrong in WRONG + NOTHING + ["", "a" * 201, "abcde", "aB", "a b", ("a",), 1]:
            self.assertRaises(errors.InvalidWord, word_recipe, wrong)

    def test_then(self):
        self.assertEqual(then_recipe(A), A)
        self.assertEqual(then_recipe(BOTH), BOTH)
        self.assertEqual(then_recipe(A, B), A + B + (("then", 0, 1),))
        self.assertEqual(
            then_recipe(A, pump_recipe(B), A),
            A + B + (("pump", 1), ("then", 0, 2)) + A + (("then", 3, 4),),
        )
        self.assertEqual(
            then_recipe(BOTH, BOTH),
            BOTH + (("letter", "a"), ("pump", 5), ("letter", "b"), ("pump", 7), ("then", 6, 8), ("then", 4, 9)),
        )

    def test_too_many_rows(self):
        self.assertEqual(len(then_recipe(LONG[:200], LONG[:199])), 400)
        for parts in ((LONG[:200], LONG[:200]), (LONG, A), (A, LONG), (A,) * 201):
            with self.assertRaises(errors.TooLarge) as caught:
                then_recipe(*parts)
            self.assertEqual(caught.exception.limit, 400)
        self.assertEqual(len(then_recipe(*(A,) * 200)), 399)
        self.assertEqual(len(then_recipe(LONG)), 400)
        self.assertEqual(pump_recipe(LONG[:399]), LONG[:399] + (("pump", 398),))
        with self.assertRaises(errors.TooLarge) as caught:
            pump_recipe(LONG)
        self.assertEqual(caught.exception.limit, 400)

    def test_too_many_letters(self):
        four = word_recipe("abcd")
        self.assertEqual(len(then_recipe(four, four)), 15)
        five = (*word_recipe("abcd"), ("letter", "e"))
        self.assertRaises(errors.InvalidRecipe, then_recipe, five)
        self.assertRaises(errors.InvalidRecipe, pump_recipe, five)
        self.assertRaises(errors.InvalidRecipe, then_recipe, word_recipe("abc"), word_recipe("de"))
        self.assertEqual(len(then_recipe(word_recipe("abc"), word_recipe("cd"))), 9)
        # Too many letters go ahead of too many rows.
        self.assertRaises(errors.InvalidRecipe, then_recipe, LONG, word_recipe("bcde"))

    def test_wrong_recipes(self):
        for wrong in wrong_recipes():
            if wrong not in (A, BOTH[:-1]):
                self.assertRaises(errors.InvalidRecipe, then_recipe, wrong)
                self.assertRaises(errors.InvalidRecipe, then_recipe, LONG, LONG, wrong)
                self.assertRaises(errors.InvalidRecipe, pump_recipe, wrong)
        self.assertEqual(pump_recipe(A), A + (("pump", 0),))


class MachineTests(unittest.TestCase):
    def test_against_tables_row_by_row(self):
        for seed in range(40):
            draw = random.Random(seed)
            first, second = some_machine(seed, most_steps=12), some_machine(seed + 100, most_steps=12)
            for recipe in fitting_recipes(draw, [first], 8):
                one, two = tables_by_rows(recipe, first), tables_by_rows(recipe, second)
                self.assertIs(fits(recipe, first), True)
                self.assertIs(fits(recipe, second), two is not None)
                self.assertIs(fits(recipe, first, second), two is not None)
                self.assertIs(fits(recipe, second, first, first), two is not None)
                self.assertEqual(tables_in(recipe, first), (one[-1],))
                self.assertEqual(tables_in(recipe, first, first), (one[-1], one[-1]))
                if two is None:
                    self.assertRaises(errors.InvalidRecipe, tables_in, recipe, first, second)
                    self.assertRaises(errors.InvalidRecipe, ceiling, recipe, second)
                else:
                    self.assertEqual(tables_in(recipe, second, first), (two[-1], one[-1]))

    def test_fits_one_machine_and_not_the_other(self):
        recipe = pump_recipe(A)
        self.assertEqual([fits(recipe, LESS), fits(recipe, SWAP), fits(recipe, LESS, SWAP)], [True, False, False])
        self.assertIs(fits(pump_recipe(word_recipe("aa")), SWAP), True)
        # A pump whose row does not count in the end must fit, too.
        self.assertIs(fits(recipe + A, SWAP), False)
        self.assertRaises(errors.InvalidRecipe, tables_in, recipe + A, LESS, SWAP)
        self.assertRaises(errors.InvalidRecipe, ceiling, recipe + A, SWAP)

    def test_pumps_within_pumps(self):
        recipe = pump_recipe(then_recipe(pump_recipe(A), B))
        self.assertEqual(tables_in(recipe, BLOCK, TOTAL), ((("dear",),), (("dear",),)))
        self.assertEqual([ceiling(recipe, BLOCK), ceiling(pump_recipe(recipe), BLOCK)], [4, 8])

    def test_ceilings(self):
        machine = make_machine(
            "abc", 1, (0, "a", 0, 1, 0), (0, "a", 1, 3, 0), (0, "b", 0, 2, 0), finals=(0,)
        )
        self.assertEqual([ceiling(A, machine), ceiling(B, machine), ceiling((("letter", "c"),), machine)], [3, 2, 0])
        self.assertEqual(ceiling(then_recipe(A, B, A), machine), 8)
        self.assertEqual(ceiling(pump_recipe(then_recipe(A, B)), machine), 10)
        free = make_machine("ab", 1, (0, "a", 1, 3, 0), (0, "b", 0, 0, 0), finals=(0,))
        recipe = A
        for _ in range(399):
            recipe = pump_recipe(recipe)
        self.assertEqual(ceiling(recipe, free), 3 * 2 ** 399)

    def test_errors(self):
        other = make_machine("abc", 1)
        for call in (fits, tables_in, ceiling):
            for wrong in [*spoiled(LESS), None]:
                self.assertRaises(errors.InvalidMachine, call, None, wrong)
        for call in (fits, tables_in):
            self.assertRaises(errors.InvalidMachine, call, None, LESS, None)
            self.assertRaises(errors.InvalidOperation, call, None, LESS, other)
            self.assertRaises(errors.InvalidOperation, call, None, LESS, other, None)
            self.assertRaises(errors.InvalidMachine, call, None, LESS, None, other)
            self.assertRaises(errors.InvalidOperation, call, None, LESS, LESS, other)
        for wrong in [*wrong_recipes(), (("letter", "c"),)]:
            if wrong not in (A, BOTH[:-1]):
                self.assertRaises(errors.InvalidRecipe, fits, wrong, LESS)
                self.assertRaises(errors.InvalidRecipe, tables_in, wrong, LESS, BLOCK)
                self.assertRaises(errors.InvalidRecipe, ceiling, wrong, LESS)

    def test_great_recipes(self):
        machine = full_machine()
        rows = list(word_recipe("abcd" * 50)) + [("then", 398, 398)]
        self.assertIs(fits(tuple(rows), machine), tables_by_rows(rows, machine) is not None)
        self.assertEqual(tables_in(tuple(rows), machine)[0], tables_by_rows(rows, machine)[-1])
