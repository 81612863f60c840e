"""Runs, the needs of words, and rows."""

from openlimit.errors import InvalidNumber, InvalidRow, InvalidRun, InvalidWord
from openlimit.kinds import is_between
from openlimit.machines.machines import MAX_COST, check_machine, steps_by_letter
from openlimit.machines.slacks import SHORT, fields_of, first_slacks, least_cap, slacks_behind

MAX_WORD = 200
MAX_CAP = 30
MAX_SHORT = 8


def is_word(alphabet, value):
    """Return whether the value is a word of the alphabet that may be passed."""
    # Of a word of the alphabet nothing is left when its letters are stripped.
    return isinstance(value, str) and len(value) <= MAX_WORD and value.strip(alphabet) == ""


def check_word(machine, word):
    """Raise InvalidWord if this is not a word of the machine's alphabet."""
    if not is_word(machine[0], word):
        raise InvalidWord("this is not a word of the alphabet")


def check_letter(machine, letter):
    """Raise InvalidWord if this is not a letter of the machine's alphabet."""
    if letter not in list(machine[0]):
        raise InvalidWord("this is not a letter of the alphabet")


def check_cap(cap):
    """Raise InvalidNumber if this is not a cap."""
    if type(cap) != int or not 0 <= cap <= MAX_CAP:
        raise InvalidNumber(cap)


def is_row(size, cap, value):
    """Return whether the value has the form of a row for the cap."""
    if not isinstance(value, tuple) or len(value) != size:
        return False
    for entry in value:
        if entry is not None and (type(entry) != int or not 0 <= entry <= cap):
            return False
    return True


def check_row(machine, cap, row):
    """Raise InvalidRow if this has not the form of a row of the machine for the cap."""
    if not is_row(machine[1], cap, row):
        raise InvalidRow("this is not a row of the machine for the cap")


def is_some_run(machine, value):
    """Return whether the value is a run of the machine on some word of at most 200 letters."""
    if not isinstance(value, tuple) or len(value) != 2:
        return False
    here, indices = value
    if type(here) != int or not 0 <= here < machine[1] or not isinstance(indices, tuple) or len(indices) > MAX_WORD:
        return False
    steps = machine[4]
    for index in indices:
        if type(index) != int or not 0 <= index < len(steps) or steps[index][0] != here:
            return False
        here = steps[index][4]
    return True


def check_run(machine, run):
    """Raise InvalidRun if this is not a run of the machine."""
    if not is_some_run(machine, run):
        raise InvalidRun("this is not a run of the machine")


def is_run(machine, word, value):
    """Return whether the value is a run on the word."""
    check_machine(machine)
    check_word(machine, word)
    return is_some_run(machine, value) and "".join([machine[4][index][1] for index in value[1]]) == word


def counts_on(machine, run):
    """Return the tuple of the counts of the run."""
    check_machine(machine)
    check_run(machine, run)
    count = 0
    counts = [0]
    for index in run[1]:
        step = machine[4][index]
        count = step[3] if step[2] else count + step[3]
        counts.append(count)
    return tuple(counts)


def need_of_run(machine, run):
    """Return the greatest count of the run."""
    return max(counts_on(machine, run))


def start_row(machine):
    """Return the row of the empty word, as a list."""
    row = [None] * machine[1]
    for state in machine[2]:
        row[state] = 0
    return row


def row_after(moves, cap, row, word):
    """Return the row behind the letters of the word, as a list; the cap may be any number."""
    size = len(row)
    for letter in word:
        found = [None] * size
        for state, _, restart, cost, goal in moves[letter]:
            count = row[state]
            if count is not None:
                count = cost if restart else count + cost
                known = found[goal]
                if count <= cap and (known is None or count < known):
                    found[goal] = count
        row = found
    return row


def final_in(machine, row):
    """Return the first final to which the row has a run, or None."""
    for state in machine[3]:
        if row[state] is not None:
            return state
    return None


def fits_in(machine, moves, cap, word):
    """Return whether the word has a need of at most the cap, which may be any number."""
    return final_in(machine, row_after(moves, cap, start_row(machine), word)) is not None


def great_need(machine, moves, word):
    """Return the need of a word that has none below the short width, or None."""
    # No run of the word has a greater count than this.
    most = MAX_COST * len(word)
    least = SHORT[0]
    if most < least or not fits_in(machine, moves, most, word):
        return None
    while least < most:
        middle = (least + most) // 2
        if fits_in(machine, moves, middle, word):
            most = middle
        else:
            least = middle + 1
    return least


def need_with(machine, moves, word):
    """Return the need of the word, or None; moves has the steps of each letter."""
    found = least_cap(machine, SHORT, slacks_behind(moves, SHORT, first_slacks(machine, SHORT), word)[-1])
    if found is None:
        return great_need(machine, moves, word)
    return found


def need(machine, word):
    """Return the need of the word, or None."""
    check_machine(machine)
    check_word(machine, word)
    return need_with(machine, steps_by_letter(machine), word)


def slacks_of(row, cap):
    """Return the list of the slacks of a row under this cap alone."""
    top = (2 << cap) - 1
    return [0 if count is None else top >> count for count in row]


def indexed_steps(machine):
    """Return the dict from each letter to the list of its steps, each with its index instead of the letter."""
    found = {letter: [] for letter in machine[0]}
    for index, (state, letter, restart, cost, goal) in enumerate(machine[4]):
        found[letter].append((state, index, restart, cost, goal))
    return found


def run_back(machine, moves, word, slacks, place, cap):
    """Return an accepted run within the cap, whose field of the slacks of all beginnings stands at this place."""
    top = (2 << cap) - 1
    for here in machine[3]:
        wanted = (slacks[-1][here] >> place) & top
        if wanted:
            break
    indices = []
    # Each slack is that of a run within the cap, so the run is found from its end.
    for letter, before in zip(word[::-1], slacks[-2::-1]):
        for state, index, restart, cost, goal in moves[letter]:
            if goal == here:
                slack = (before[state] >> place) & top
                if slack and (top if restart else slack) >> cost == wanted:
                    indices.append(index)
                    here, wanted = state, slack
                    break
    return (here, tuple(indices[::-1]))


def best_run(machine, word):
    """Return an accepted run on the word with its need, or None."""
    check_machine(machine)
    check_word(machine, word)
    moves = indexed_steps(machine)
    slacks = slacks_behind(moves, SHORT, first_slacks(machine, SHORT), word)
    cap = least_cap(machine, SHORT, slacks[-1])
    if cap is not None:
        return run_back(machine, moves, word, slacks, SHORT[0] * cap, cap)
    cap = great_need(machine, moves, word)
    if cap is None:
        return None
    row = start_row(machine)
    slacks = [slacks_of(row, cap)]
    for letter in word:
        row = row_after(moves, cap, row, letter)
        slacks.append(slacks_of(row, cap))
    return run_back(machine, moves, word, slacks, 0, cap)


def first_row(machine):
    """Return the row of the empty word."""
    check_machine(machine)
    return tuple(start_row(machine))


def row_behind(machine, cap, row, letter):
    """Return the row behind one more letter."""
    check_machine(machine)
    check_cap(cap)
    check_row(machine, cap, row)
    check_letter(machine, letter)
    moves = {letter: [step for step in machine[4] if step[1] == letter]}
    return tuple(row_after(moves, cap, row, letter))


def row_of(machine, cap, word):
    """Return the row of the word."""
    check_machine(machine)
    check_cap(cap)
    check_word(machine, word)
    return tuple(row_after(steps_by_letter(machine), cap, start_row(machine), word))


def needs_to(machine, length):
    """Yield the pairs (word, need) of all words up to the length that have a need."""
    check_machine(machine)
    if not is_between(length, 0, MAX_SHORT):
        raise InvalidNumber(length)
    moves = steps_by_letter(machine)
    # No count of a word with so many letters is as great as the width.
    width = MAX_COST * length + 1
    fields = SHORT if width <= SHORT[0] else fields_of(width)
    layer = [("", first_slacks(machine, fields))]
    if least_cap(machine, fields, layer[0][1]) is not None:
        yield ("", 0)
    for many in range(1, length + 1):
        longer = []
        for word, before in layer:
            for letter in machine[0]:
                after = slacks_behind(moves, fields, before, letter)[-1]
                found = least_cap(machine, fields, after)
                if found is not None:
                    yield (word + letter, found)
                # A word without a need is kept, too, as longer ones may have one.
                if many < length and any(after):
                    longer.append((word + letter, after))
        layer = longer
