"""Recipes: words with pumped parts, and their tables."""

from openlimit.errors import InvalidRecipe, InvalidWord, TooLarge
from openlimit.kinds import is_between
from openlimit.machines.machines import LETTERS, MAX_LETTERS, check_alphabet, check_machine, check_machines
from openlimit.machines.needs import MAX_WORD
from openlimit.tables.packed import (
    is_packed_idempotent, packed_letter, packed_product, packed_pumped, table_from,
)

MAX_ROWS = 400


def are_earlier(indices, place):
    """Return whether these are indices of rows ahead of this place."""
    return all([is_between(index, 0, place - 1) for index in indices])


def is_recipe_row(letters, value, place):
    """Return whether the value may stand as a row with these letters at this place."""
    if not isinstance(value, tuple) or not 2 <= len(value) <= 3:
        return False
    if value[0] == "letter":
        return len(value) == 2 and value[1] in list(letters)
    if value[0] == "then":
        return len(value) == 3 and are_earlier(value[1:], place)
    return value[0] == "pump" and len(value) == 2 and are_earlier(value[1:], place)


def is_recipe_of(letters, value):
    """Return whether the value is a recipe with these letters, which may be more than an alphabet has."""
    if not isinstance(value, tuple) or not 1 <= len(value) <= MAX_ROWS:
        return False
    return all([is_recipe_row(letters, row, place) for place, row in enumerate(value)])


def are_few_letters(signs):
    """Return whether some alphabet has all these letters."""
    return len(set(signs)) <= MAX_LETTERS


def letters_in(recipe):
    """Return the list of the letters of the recipe, perhaps repeated."""
    return [row[1] for row in recipe if row[0] == "letter"]


def check_recipe(recipe):
    """Raise InvalidRecipe if this is not a recipe of some alphabet."""
    if not is_recipe_of(LETTERS, recipe) or not are_few_letters(letters_in(recipe)):
        raise InvalidRecipe("this is not a recipe")


def is_recipe(alphabet, value):
    """Return whether the value is a recipe of the alphabet."""
    check_alphabet(alphabet)
    return is_recipe_of(alphabet, value)


def word_recipe(word):
    """Return the recipe that says the word."""
    if not isinstance(word, str) or not 1 <= len(word) <= MAX_WORD or word.strip(LETTERS) != "":
        raise InvalidWord("this is not a word of 1 to 200 letters")
    if not are_few_letters(word):
        raise InvalidWord("a word has at most four different letters")
    rows = [("letter", word[0])]
    for letter in word[1:]:
        rows.append(("letter", letter))
        rows.append(("then", len(rows) - 2, len(rows) - 1))
    return tuple(rows)


def moved_row(row, many):
    """Return the row with its indices moved up."""
    if row[0] == "letter":
        return row
    return (row[0], *[index + many for index in row[1:]])


def then_recipe(first, *others):
    """Return the recipe that says several recipes one after another."""
    signs = []
    for recipe in (first, *others):
        check_recipe(recipe)
        signs.extend(letters_in(recipe))
    if not are_few_letters(signs):
        raise InvalidRecipe("the recipes have more than four letters")
    rows = list(first)
    for recipe in others:
        last = len(rows) - 1
        rows.extend([moved_row(row, last + 1) for row in recipe])
        rows.append(("then", last, len(rows) - 1))
    if len(rows) > MAX_ROWS:
        raise TooLarge(MAX_ROWS)
    return tuple(rows)


def pump_recipe(recipe):
    """Return the recipe pumped."""
    check_recipe(recipe)
    if len(recipe) == MAX_ROWS:
        raise TooLarge(MAX_ROWS)
    return (*recipe, ("pump", len(recipe) - 1))


def check_recipe_of(machine, recipe):
    """Raise InvalidRecipe if this is not a recipe of the machine's alphabet."""
    if not is_recipe_of(machine[0], recipe):
        raise InvalidRecipe("this is not a recipe of the alphabet")


def packed_rows(recipe, machine):
    """Return the list of the packed tables of the rows in the machine, or None if the recipe does not fit."""
    found = []
    for row in recipe:
        if row[0] == "letter":
            found.append(packed_letter(machine, row[1]))
        elif row[0] == "then":
            found.append(packed_product(found[row[1]], found[row[2]]))
        elif is_packed_idempotent(found[row[1]]):
            found.append(packed_pumped(found[row[1]]))
        else:
            return None
    return found


def fits(recipe, first, *others):
    """Return whether the recipe fits all these machines."""
    machines = (first, *others)
    check_machines(machines)
    check_recipe_of(first, recipe)
    return all([packed_rows(recipe, machine) is not None for machine in machines])


def last_table(recipe, machine):
    """Return the packed table of the last row in the machine; InvalidRecipe if the recipe does not fit."""
    rows = packed_rows(recipe, machine)
    if rows is None:
        raise InvalidRecipe("the recipe does not fit")
    return rows[-1]


def tables_in(recipe, first, *others):
    """Return the tuple of the tables of the last row in these machines."""
    machines = (first, *others)
    check_machines(machines)
    check_recipe_of(first, recipe)
    return tuple([table_from(last_table(recipe, machine)) for machine in machines])


def ceiling(recipe, machine):
    """Return the ceiling of the recipe in the machine."""
    check_machine(machine)
    check_recipe_of(machine, recipe)
    last_table(recipe, machine)
    found = []
    for row in recipe:
        if row[0] == "letter":
            found.append(max([step[3] for step in machine[4] if step[1] == row[1]], default=0))
        elif row[0] == "then":
            found.append(found[row[1]] + found[row[2]])
        else:
            found.append(2 * found[row[1]])
    return found[-1]
