"""Machines made of other machines."""

from openlimit.errors import InvalidNumber, InvalidOperation, TooLarge
from openlimit.kinds import is_between, ordered
from openlimit.machines.machines import (
    LETTERS, MAX_COST, MAX_STATES, MAX_STEPS, check_machine, check_machines, is_meter, is_plain,
)


def check_meter(machine):
    """Raise InvalidOperation if the machine, which is checked, is not a meter."""
    if not is_meter(machine):
        raise InvalidOperation("a machine is not a meter")


def check_plain(machine):
    """Raise InvalidOperation if the machine, which is checked, is not plain."""
    if not is_plain(machine):
        raise InvalidOperation("a machine is not plain")


def built(alphabet, size, starts, finals, steps):
    """Return the machine with these parts, in any order; TooLarge if something in it is too large."""
    if size > MAX_STATES:
        raise TooLarge(MAX_STATES)
    kept = ordered(steps)
    if len(kept) > MAX_STEPS:
        raise TooLarge(MAX_STEPS)
    if max([step[3] for step in kept], default=0) > MAX_COST:
        raise TooLarge(MAX_COST)
    return (alphabet, size, ordered(starts), ordered(finals), kept)


def has_empty(machine):
    """Return whether the machine accepts the empty word."""
    return any([state in machine[3] for state in machine[2]])


def moved(machine, many):
    """Return the starts, the finals and the steps of the machine, with its states moved up."""
    starts = [state + many for state in machine[2]]
    finals = [state + many for state in machine[3]]
    return (starts, finals, [(step[0] + many, *step[1:4], step[4] + many) for step in machine[4]])


def entries_from(places, steps, starts, restart):
    """Return the list of steps that lead from these places on, as those do that begin in a start."""
    return [
        (place, letter, restart, cost, goal)
        for state, letter, _, cost, goal in steps if state in starts for place in places
    ]


def either(first, *others):
    """Return the machine of all the machines side by side."""
    check_machines((first, *others))
    starts, finals, steps = [], [], []
    size = 0
    for machine in (first, *others):
        further = moved(machine, size)
        starts.extend(further[0])
        finals.extend(further[1])
        steps.extend(further[2])
        size += machine[1]
    return built(first[0], size, starts, finals, steps)


def one_behind(first, second, restart):
    """Return the machine of one machine followed by another one, with this restart at the entries of the second one."""
    starts, finals, steps = moved(second, first[1])
    entries = entries_from(first[3], steps, starts, restart)
    if has_empty(first):
        starts = [*starts, *first[2]]
    else:
        starts = first[2]
    if has_empty(second):
        finals = [*finals, *first[3]]
    return built(first[0], first[1] + second[1], starts, finals, [*first[4], *steps, *entries])


def followed(first, second):
    """Return the machine of one machine followed by another one, each with needs of its own."""
    check_machines((first, second))
    return one_behind(first, second, 1)


def added(first, second):
    """Return the meter of one meter followed by another one, with the sum of the needs."""
    check_machines((first, second))
    check_meter(first)
    check_meter(second)
    return one_behind(first, second, 0)


def iterated(machine):
    """Return the machine of the accepted words, one after another in any number."""
    check_machine(machine)
    alphabet, size, starts, finals, steps = machine
    ends = [*finals, size]
    return built(alphabet, size + 1, [size], ends, [*steps, *entries_from(ends, steps, starts, 1)])


def paired(first, second, steps):
    """Return the machine of the pairs of states of two machines, with these steps."""
    many = second[1]
    starts = [one * many + other for one in first[2] for other in second[2]]
    finals = [one * many + other for one in first[3] for other in second[3]]
    return built(first[0], first[1] * many, starts, finals, steps)


def step_pairs(first, second):
    """Return the list of the pairs of steps of two machines with one letter."""
    return [(one, other) for one in first[4] for other in second[4] if one[1] == other[1]]


def summed(first, second):
    """Return the meter that needs the sum of the needs of two meters."""
    check_machines((first, second))
    check_meter(first)
    check_meter(second)
    many = second[1]
    steps = [
        (one[0] * many + other[0], one[1], 0, one[3] + other[3], one[4] * many + other[4])
        for one, other in step_pairs(first, second)
    ]
    return paired(first, second, steps)


def restricted(first, second):
    """Return the machine that needs what the first one needs, for the words of the second one, which is plain."""
    check_machines((first, second))
    check_plain(second)
    many = second[1]
    steps = [
        (one[0] * many + other[0], one[1], one[2], one[3], one[4] * many + other[4])
        for one, other in step_pairs(first, second)
    ]
    return paired(first, second, steps)


def are_new_letters(alphabet, value):
    """Return whether the value is a dict from exactly the letters of the alphabet to letters."""
    if not isinstance(value, dict) or len(value) != len(alphabet):
        return False
    return all([letter in value and value[letter] in list(LETTERS) for letter in alphabet])


def renamed(machine, letters):
    """Return the machine with other letters."""
    check_machine(machine)
    alphabet, size, starts, finals, steps = machine
    if not are_new_letters(alphabet, letters):
        raise InvalidOperation("this is not a dict from exactly the letters of the alphabet to letters")
    signs = "".join(sorted(set([letters[letter] for letter in alphabet])))
    return built(signs, size, starts, finals, [(step[0], letters[step[1]], *step[2:]) for step in steps])


def backwards(machine):
    """Return the meter of the reversed words."""
    check_machine(machine)
    check_meter(machine)
    alphabet, size, starts, finals, steps = machine
    return built(alphabet, size, finals, starts, [(step[4], *step[1:4], step[0]) for step in steps])


def scaled(machine, factor):
    """Return the machine with all costs multiplied by the factor."""
    check_machine(machine)
    if not is_between(factor, 0, MAX_COST):
        raise InvalidNumber(factor)
    alphabet, size, starts, finals, steps = machine
    return built(alphabet, size, starts, finals, [(*step[:3], step[3] * factor, step[4]) for step in steps])
