"""Written words: words with exponents."""

from openlimit.errors import InvalidNumber, InvalidOperation, InvalidWritten, TooLarge
from openlimit.kinds import is_between
from openlimit.machines.machines import LETTERS, MAX_STATES, check_alphabet, check_machine, is_meter, steps_by_letter
from openlimit.machines.needs import check_cap, is_word, start_row
from openlimit.tables.prices import (
    costs_behind, costs_behind_word, joined_prices, no_prices, repeated_prices, word_prices,
)
from openlimit.tables.reading import Reading
from openlimit.tables.recipes import MAX_ROWS, are_earlier, are_few_letters, check_recipe

MAX_TIMES = 10 ** 18
MAX_SPELLED = 10000
MAX_NUMBER = 10 ** 12


def is_written_row(letters, value, place):
    """Return whether the value may stand as a row with these letters at this place."""
    if not isinstance(value, tuple) or not 2 <= len(value) <= 3:
        return False
    if value[0] == "word":
        return len(value) == 2 and is_word(letters, value[1])
    if len(value) != 3 or not is_between(value[1], 0, place - 1):
        return False
    if value[0] == "then":
        return are_earlier(value[2:], place)
    return value[0] == "times" and is_between(value[2], 0, MAX_TIMES)


def is_written_of(letters, value):
    """Return whether the value is a written word with these letters, which may be more than an alphabet has."""
    if not isinstance(value, tuple) or not 1 <= len(value) <= MAX_ROWS:
        return False
    return all([is_written_row(letters, row, place) for place, row in enumerate(value)])


def check_written(written):
    """Raise InvalidWritten if this is not a written word of some alphabet."""
    if not is_written_of(LETTERS, written):
        raise InvalidWritten("this is not a written word")
    if not are_few_letters("".join([row[1] for row in written if row[0] == "word"])):
        raise InvalidWritten("a written word has at most four different letters")


def check_written_of(machine, written):
    """Raise InvalidWritten if this is not a written word of the machine's alphabet."""
    if not is_written_of(machine[0], written):
        raise InvalidWritten("this is not a written word of the alphabet")


def is_written(alphabet, value):
    """Return whether the value is a written word of the alphabet."""
    check_alphabet(alphabet)
    return is_written_of(alphabet, value)


def written_of(recipe, number, size):
    """Return the written word of the recipe for the number and the size."""
    check_recipe(recipe)
    if not is_between(number, 1, MAX_NUMBER):
        raise InvalidNumber(number)
    if not is_between(size, 1, MAX_STATES):
        raise InvalidNumber(size)
    rows = []
    for row in recipe:
        if row[0] == "letter":
            rows.append(("word", row[1]))
        elif row[0] == "then":
            rows.append(row)
        else:
            rows.append(("times", row[1], (number + 1) * (size + 1)))
    return tuple(rows)


def lengths_of(written):
    """Return the list of the lengths of the words of all rows."""
    found = []
    for row in written:
        if row[0] == "word":
            found.append(len(row[1]))
        elif row[0] == "then":
            found.append(found[row[1]] + found[row[2]])
        else:
            found.append(found[row[1]] * row[2])
    return found


def length_of(written):
    """Return the number of letters."""
    check_written(written)
    return lengths_of(written)[-1]


def base_of(written, place):
    """Return the row that is repeated by the repeats at this place, one within the other, and how often."""
    times = 1
    while written[place][0] == "times":
        times = times * written[place][2]
        place = written[place][1]
    return (place, times)


def parts_of(written, place):
    """Return the list of the rows that must be known for the one at this place."""
    row = written[place]
    if row[0] == "word":
        return []
    if row[0] == "then":
        return [row[1], row[2]]
    base, times = base_of(written, place)
    return [base] if times > 0 else []


def needed_rows(written, places):
    """Return the ascending list of the rows that must be known for those at these places, and these themselves."""
    found = {place: True for place in places}
    for place in reversed(range(len(written))):
        if place in found:
            for part in parts_of(written, place):
                found[part] = True
    return sorted(found)


def spelled(written):
    """Return the word itself."""
    check_written(written)
    lengths = lengths_of(written)
    if lengths[-1] > MAX_SPELLED:
        raise TooLarge(MAX_SPELLED)
    last = len(written) - 1
    texts = {}
    for place in needed_rows(written, [last]):
        row = written[place]
        if row[0] == "word":
            texts[place] = row[1]
        elif row[0] == "then":
            texts[place] = texts[row[1]] + texts[row[2]]
        else:
            base, times = base_of(written, place)
            # Nothing, repeated more often than Python can, is nothing.
            texts[place] = texts[base] * times if lengths[place] > 0 else ""
    return texts[last]


def read_in_order(written):
    """Return the list of the rows that are read one after another; one that joins two, and is used once, gives way."""
    last = len(written) - 1
    uses = {last: 1}
    for place in needed_rows(written, [last]):
        for part in parts_of(written, place):
            uses[part] = uses.get(part, 0) + 1
    found = []
    waiting = [last]
    while waiting:
        place = waiting.pop()
        row = written[place]
        if row[0] == "then" and uses[place] == 1:
            waiting.extend([row[2], row[1]])
        else:
            found.append(place)
    return found


def prices_in(machine, written, places):
    """Return the dict from these places, and those that they need, to the prices of their rows."""
    moves = steps_by_letter(machine)
    found = {}
    for place in needed_rows(written, places):
        row = written[place]
        if row[0] == "word":
            found[place] = word_prices(moves, machine[1], row[1])
        elif row[0] == "then":
            found[place] = joined_prices(found[row[1]], found[row[2]])
        else:
            base, times = base_of(written, place)
            found[place] = repeated_prices(found[base], times) if times > 0 else no_prices(machine[1])
    return found


def price_of(machine, written):
    """Return the need of the word in a meter, or None."""
    check_machine(machine)
    if not is_meter(machine):
        raise InvalidOperation("the machine is not a meter")
    check_written_of(machine, written)
    order = read_in_order(written)
    prices = prices_in(machine, written, [place for place in order if written[place][0] != "word"])
    moves = steps_by_letter(machine)
    costs = start_row(machine)
    for place in order:
        if written[place][0] == "word":
            costs = costs_behind_word(moves, costs, written[place][1])
        else:
            costs = costs_behind(costs, prices[place])
    return min([costs[final] for final in machine[3] if costs[final] is not None], default=None)


def row_of_written(machine, cap, written):
    """Return the row of the word for the cap."""
    check_machine(machine)
    check_cap(cap)
    check_written_of(machine, written)
    return Reading(machine, cap, written).follow(tuple(start_row(machine)))
