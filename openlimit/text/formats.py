"""Texts of machines, recipes and edits; each value has one text."""

from openlimit.desk.edits import PARTS, has_edit_form, is_name
from openlimit.errors import InvalidOperation, ParseError
from openlimit.kinds import is_between
from openlimit.machines.machines import check_alphabet, check_machine, is_machine
from openlimit.machines.needs import MAX_CAP
from openlimit.patterns.patterns import Pattern
from openlimit.patterns.rewriting import EXACT, ROUGH
from openlimit.tables.recipes import check_recipe, is_recipe_of

DIGITS = "0123456789"
MAX_DIGITS = 40
MAX_INDEX = 99
# For each kind of edit what its parts are.
KINDS = {
    "set": ("name", "pattern"),
    "remove": ("name",),
    "rename": ("name", "name"),
    "rewrite": ("name", "rule", "path", "back"),
    "promise": ("name", "name", "cap", "top"),
    "drop": ("index",),
}


def number_in(text):
    """Return the number that is written here without leading zeros, with at most forty digits."""
    if not 1 <= len(text) <= MAX_DIGITS or text.strip(DIGITS) != "" or (text[0] == "0" and text != "0"):
        raise ParseError("this is not a number")
    return int(text)


def check_string(text):
    """Raise ParseError if this is not a string."""
    if not isinstance(text, str):
        raise ParseError("a text is a string")


def joined_numbers(numbers, sign):
    """Return the text of the numbers with the sign between them, `-` for none."""
    return sign.join([str(number) for number in numbers]) or "-"


def numbers_in(text, sign):
    """Return the tuple of the numbers with the sign between them."""
    if text == "-":
        return ()
    return tuple([number_in(part) for part in text.split(sign)])


def step_text(step):
    """Return the line of the step."""
    state, letter, restart, cost, goal = step
    sign = "=" if restart else "+"
    return f"{state} {letter} {sign}{cost} {goal}"


def machine_text(machine):
    """Return the text of the machine."""
    check_machine(machine)
    alphabet, size, starts, finals, steps = machine
    words = ["machine", alphabet, str(size)]
    words.extend(["starts", joined_numbers(starts, ","), "finals", joined_numbers(finals, ",")])
    return "\n".join([" ".join(words), *[step_text(step) for step in steps]])


def step_in(line):
    """Return the step of the line."""
    words = line.split(" ")
    if len(words) != 4 or words[2][:1] not in ("+", "="):
        raise ParseError("this is not a step")
    restart = 1 if words[2][0] == "=" else 0
    return (number_in(words[0]), words[1], restart, number_in(words[2][1:]), number_in(words[3]))


def parse_machine(text):
    """Return the machine with this text."""
    check_string(text)
    lines = text.split("\n")
    words = lines[0].split(" ")
    if len(words) != 7 or [words[0], words[3], words[5]] != ["machine", "starts", "finals"]:
        raise ParseError("this is not the first line of a machine")
    starts, finals = numbers_in(words[4], ","), numbers_in(words[6], ",")
    found = (words[1], number_in(words[2]), starts, finals, tuple([step_in(line) for line in lines[1:]]))
    if not is_machine(found):
        raise ParseError("there is no machine with this text")
    return found


def recipe_text(recipe):
    """Return the text of the recipe."""
    check_recipe(recipe)
    return "\n".join([" ".join([str(part) for part in row]) for row in recipe])


def row_in(line):
    """Return the row of the recipe with this line."""
    words = line.split(" ")
    if words[0] == "letter":
        return tuple(words)
    return (words[0], *[number_in(word) for word in words[1:]])


def parse_recipe(alphabet, text):
    """Return the recipe of the alphabet with this text."""
    check_alphabet(alphabet)
    check_string(text)
    found = tuple([row_in(line) for line in text.split("\n")])
    if not is_recipe_of(alphabet, found):
        raise ParseError("there is no recipe of the alphabet with this text")
    return found


def is_rule(value):
    """Return whether the value is the name of a rule."""
    return value in list(EXACT + ROUGH)


def is_path_of_two(value):
    """Return whether the value is a tuple of integers 0 and 1."""
    return isinstance(value, tuple) and all([is_between(index, 0, 1) for index in value])


def is_part(kind, value):
    """Return whether the value may stand as a part of this kind."""
    if kind == "name":
        return is_name(value)
    if kind == "pattern":
        return isinstance(value, Pattern)
    if kind == "rule":
        return is_rule(value)
    if kind == "path":
        return is_path_of_two(value)
    if kind == "back":
        return value is False or value is True
    if kind == "index":
        return is_between(value, 0, MAX_INDEX)
    return is_between(value, 0, MAX_CAP) or (kind == "top" and value is None)


def part_text(kind, value):
    """Return the text of the part."""
    if kind == "path":
        return joined_numbers(value, ".")
    return "-" if value is None else str(value)


def edit_text(edit):
    """Return the text of the edit."""
    if not has_edit_form(edit):
        raise InvalidOperation("this is not an edit")
    kinds = KINDS[edit[0]]
    if not all([is_part(kind, value) for kind, value in zip(kinds, edit[1:])]):
        raise InvalidOperation("a part of the edit is not as it must be")
    words = [part_text(kind, value) for kind, value in zip(kinds, edit[1:])]
    if edit[0] == "rewrite":
        words = [*words[:3], "back"] if edit[4] else words[:3]
    return " ".join([edit[0], *words])


def part_in(kind, word):
    """Return the part of this kind with this text."""
    if kind == "pattern":
        return Pattern.read(word)
    if kind == "path":
        return numbers_in(word, ".")
    if kind == "top" and word == "-":
        return None
    if kind in ("cap", "top", "index"):
        return number_in(word)
    return word


def parse_edit(text):
    """Return the edit with this text."""
    check_string(text)
    words = text.split(" ")
    if words[0] not in PARTS:
        raise ParseError("this is not the word of an edit")
    kinds = KINDS[words[0]]
    parts = words[1:]
    if words[0] == "rewrite":
        # The last part has no text, or this one.
        is_back = parts[-1:] == ["back"] and len(parts) == len(kinds)
        parts = [*parts[:-1], True] if is_back else [*parts, False]
    if len(parts) != len(kinds):
        raise ParseError("this edit has another number of parts")
    found = [part_in(kind, word) for kind, word in zip(kinds, parts)]
    if not all([is_part(kind, value) for kind, value in zip(kinds, found)]):
        raise ParseError("a part of the edit is not as it must be")
    return (words[0], *found)
