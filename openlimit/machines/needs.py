"""Runs, the needs of words, and rows."""

from openlimit.errors import InvalidNumber, InvalidRow, InvalidRun, InvalidWord
from openlimit.kinds import is_between, is_letter
from openlimit.machines.machines import MAX_COST, check_machine, steps_by_letter
from openlimit.machines.slacks import Slacks

MAX_WORD = 200
MAX_CAP = 30
MAX_SHORT = 8


def is_word(alphabet, value):
    """Return whether the value is a word of the alphabet that may be passed."""
    if not isinstance(value, str) or len(value) > MAX_WORD:
        return False
    return all([sign in alphabet for sign in value])


def check_word(machine, word):
    """Raise InvalidWord if this is not a word of the machine's alphabet."""
    if not is_word(machine[0], word):
        raise InvalidWord("this is not a word of the alphabet")


def check_letter(machine, letter):
    """Raise InvalidWord if this is not a letter of the machine's alphabet."""
    if not is_letter(letter) or letter not in machine[0]:
        raise InvalidWord("this is not a letter of the alphabet")


def check_cap(cap):
    """Raise InvalidNumber if this is not a cap."""
    if not is_between(cap, 0, MAX_CAP):
        raise InvalidNumber(cap)


def is_row(size, cap, value):
    """Return whether the value has the form of a row for the cap."""
    if not isinstance(value, tuple) or len(value) != size:
        return False
    return all([entry is None or is_between(entry, 0, cap) for entry in value])


def check_row(machine, cap, row):
    """Raise InvalidRow if this has not the form of a row of the machine for the cap."""
    if not is_row(machine[1], cap, row):
        raise InvalidRow("this is not a row of the machine for the cap")


def has_run_form(machine, value):
    """Return whether the value is a state and a tuple of at most 200 indices of steps."""
    if not isinstance(value, tuple) or len(value) != 2:
        return False
    state, indices = value
    if not is_between(state, 0, machine[1] - 1):
        return False
    if not isinstance(indices, tuple) or len(indices) > MAX_WORD:
        return False
    return all([is_between(index, 0, len(machine[4]) - 1) for index in indices])


def is_some_run(machine, value):
    """Return whether the value is a run of the machine on some word."""
    if not has_run_form(machine, value):
        return False
    here, indices = value
    for index in indices:
        step = machine[4][index]
        if step[0] != here:
            return False
        here = step[4]
    return True


def check_run(machine, run):
    """Raise InvalidRun if this is not a run of the machine."""
    if not is_some_run(machine, run):
        raise InvalidRun("this is not a run of the machine")


def is_run(machine, word, value):
    """Return whether the value is a run on the word."""
    check_machine(machine)
    check_word(machine, word)
    return is_some_run(machine, value) and [machine[4][index][1] for index in value[1]] == list(word)


def count_behind(count, step):
    """Return the count behind the step."""
    if step[2] == 1:
        return step[3]
    return count + step[3]


def counts_on(machine, run):
    """Return the tuple of the counts of the run."""
    check_machine(machine)
    check_run(machine, run)
    counts = [0]
    for index in run[1]:
        counts.append(count_behind(counts[-1], machine[4][index]))
    return tuple(counts)


def need_of_run(machine, run):
    """Return the greatest count of the run."""
    return max(counts_on(machine, run))


def start_row(machine):
    """Return the row of the empty word."""
    return tuple([0 if state in machine[2] else None for state in range(machine[1])])


def row_after(steps, cap, row):
    """Return the row behind one more letter with these steps."""
    found = [None] * len(row)
    for step in steps:
        before = row[step[0]]
        if before is not None:
            count = count_behind(before, step)
            known = found[step[4]]
            if count <= cap and (known is None or count < known):
                found[step[4]] = count
    return tuple(found)


def rows_on(machine, cap, word):
    """Return the list of the rows of all beginnings of the word; the cap may be any number."""
    steps = steps_by_letter(machine)
    rows = [start_row(machine)]
    for letter in word:
        rows.append(row_after(steps[letter], cap, rows[-1]))
    return rows


def ends_in(machine, row):
    """Return the list of the finals to which the row has a run."""
    return [state for state in machine[3] if row[state] is not None]


def least_need(machine, word):
    """Return the need of the word, or None."""
    # No run of the word has a greater count than this.
    most = MAX_COST * len(word)
    if not ends_in(machine, rows_on(machine, most, word)[-1]):
        return None
    least = 0
    while least < most:
        middle = (least + most) // 2
        if ends_in(machine, rows_on(machine, middle, word)[-1]):
            most = middle
        else:
            least = middle + 1
    return least


def need(machine, word):
    """Return the need of the word, or None."""
    check_machine(machine)
    check_word(machine, word)
    return least_need(machine, word)


def index_into(machine, row, letter, state, count):
    """Return the index of a step by which the letter leads from the row to this state and count."""
    return [
        index for index, step in enumerate(machine[4])
        if step[1] == letter and step[4] == state
        and row[step[0]] is not None and count_behind(row[step[0]], step) == count
    ][0]


def best_run(machine, word):
    """Return an accepted run on the word with its need, or None."""
    check_machine(machine)
    check_word(machine, word)
    cap = least_need(machine, word)
    if cap is None:
        return None
    # Each entry of a row is the count of a run within the need, so the run is found from its end.
    rows = rows_on(machine, cap, word)
    state = ends_in(machine, rows[-1])[0]
    indices = []
    for place in reversed(range(len(word))):
        index = index_into(machine, rows[place], word[place], state, rows[place + 1][state])
        indices.append(index)
        state = machine[4][index][0]
    return (state, tuple(indices[::-1]))


def first_row(machine):
    """Return the row of the empty word."""
    check_machine(machine)
    return start_row(machine)


def row_behind(machine, cap, row, letter):
    """Return the row behind one more letter."""
    check_machine(machine)
    check_cap(cap)
    check_row(machine, cap, row)
    check_letter(machine, letter)
    return row_after(steps_by_letter(machine)[letter], cap, row)


def row_of(machine, cap, word):
    """Return the row of the word."""
    check_machine(machine)
    check_cap(cap)
    check_word(machine, word)
    return rows_on(machine, cap, word)[-1]


def needs_to(machine, length):
    """Yield the pairs (word, need) of all words up to the length that have a need."""
    check_machine(machine)
    if not is_between(length, 0, MAX_SHORT):
        raise InvalidNumber(length)
    slacks = Slacks(machine, length)
    layer = [("", slacks.opening())]
    if slacks.least_cap(slacks.opening()) is not None:
        yield ("", 0)
    for many in range(1, length + 1):
        longer = []
        for word, before in layer:
            for letter in machine[0]:
                after = slacks.behind(before, letter)
                found = slacks.least_cap(after)
                if found is not None:
                    yield (word + letter, found)
                # A word without a need is kept, too, as longer ones may have one.
                if many < length and any(after):
                    longer.append((word + letter, after))
        layer = longer
