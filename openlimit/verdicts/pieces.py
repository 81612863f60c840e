"""Cuttings of words into words that a plain machine accepts, and how many parts they must have."""

from openlimit.errors import InvalidOperation, TooLarge
from openlimit.kinds import is_between, ordered
from openlimit.machines.machines import MAX_STATES, MAX_STEPS, check_machine, is_plain, plain_of, steps_by_letter
from openlimit.machines.needs import check_word
from openlimit.tables.closures import MOST_TUPLES
from openlimit.verdicts.bounds import found_paper, is_bound_paper
from openlimit.verdicts.verdicts import is_verdict, unbounded_paper
from openlimit.verdicts.walks import Climb, Rows


def check_plain_machine(machine):
    """Raise InvalidMachine if this is not a machine, InvalidOperation if it is not plain."""
    check_machine(machine)
    if not is_plain(machine):
        raise InvalidOperation("the machine is not plain")


def are_ends(length, value):
    """Return whether the value is a tuple of ascending positions behind 0, the last one at this length."""
    if not isinstance(value, tuple):
        return False
    before = 0
    for position in value:
        if not is_between(position, before + 1, length):
            return False
        before = position
    return before == length


def is_cutting(machine, word, value):
    """Return whether the value is a cutting of the word."""
    check_plain_machine(machine)
    check_word(machine, word)
    if not are_ends(len(word), value):
        return False
    rows = Rows(plain_of(machine), 0)
    parts = [word[begin:end] for begin, end in zip((0, *value), value)]
    return all([rows.is_accepted(rows.behind_word(part)) for part in parts])


def parts_behind(machine, steps, row, cut, place):
    """Return the row behind one more letter with these steps, where a cut tells of the letters ahead of this place.

    A row has for each state the least pair (number of parts, begin of the last part), or None; a cut is such a pair.
    """
    found = [None] * machine[1]
    for state, _, _, _, goal in steps:
        ways = [row[state]]
        if cut is not None and state in machine[2]:
            ways.append((cut[0] + 1, place))
        for way in ways:
            if way is not None and (found[goal] is None or way < found[goal]):
                found[goal] = way
    return found


def best_cutting(machine, word):
    """Return a cutting with the fewest parts, or None."""
    check_plain_machine(machine)
    check_word(machine, word)
    moves = steps_by_letter(machine)
    row = [None] * machine[1]
    cuts = [(0, 0)]
    for place, letter in enumerate(word):
        row = parts_behind(machine, moves[letter], row, cuts[place], place)
        cuts.append(min([row[state] for state in machine[3] if row[state] is not None], default=None))
    if cuts[-1] is None:
        return None
    ends = []
    place = len(word)
    while place > 0:
        ends.append(place)
        place = cuts[place][1]
    return tuple(ends[::-1])


def piece_machine(machine):
    """Return the piece machine, in which a word needs the number of parts of its shortest cuttings."""
    check_plain_machine(machine)
    alphabet, size, starts, finals, steps = machine
    if size == MAX_STATES:
        raise TooLarge(MAX_STATES)
    found = []
    for state, letter, _, _, goal in steps:
        found.append((state, letter, 0, 0, goal))
        if state in starts:
            found.extend([(place, letter, 0, 1, goal) for place in (*finals, size)])
    kept = ordered(found)
    if len(kept) > MAX_STEPS:
        raise TooLarge(MAX_STEPS)
    return (alphabet, size + 1, (size,), (*finals, size), kept)


def power_paper(machine):
    """Return a paper that shows how many parts are enough, or that no number is."""
    pieces = piece_machine(machine)
    plain = plain_of(pieces)
    # Both accept the same words, so there is no never word.
    paper = unbounded_paper(pieces, plain, MOST_TUPLES)
    if paper is not None:
        return paper
    return ("power", found_paper(Climb(pieces, plain), 0, 0))


def is_power_paper(machine, value):
    """Return whether the value is a power paper."""
    pieces = piece_machine(machine)
    if not isinstance(value, tuple) or len(value) != 2:
        return False
    if value[0] == "power":
        return is_bound_paper(pieces, plain_of(pieces), 0, value[1])
    return value[0] == "grows" and is_verdict(pieces, plain_of(pieces), value)
