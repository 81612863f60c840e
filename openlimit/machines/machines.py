"""Machines: what they are, how they are made, and simple changes."""

from openlimit.errors import InvalidMachine, InvalidNumber, InvalidOperation, TooLarge
from openlimit.kinds import is_between, ordered

MAX_STATES = 8
MAX_STEPS = 60
MAX_COST = 3
MAX_LETTERS = 4
LETTERS = "abcdefghijklmnopqrstuvwxyz"


def is_alphabet(value):
    """Return whether the value is a string of one to four letters, ascending."""
    if not isinstance(value, str) or not 1 <= len(value) <= MAX_LETTERS:
        return False
    # Letters that follow one another need no closer look.
    if value in LETTERS:
        return True
    before = ""
    for sign in value:
        if not "a" <= sign <= "z" or not before < sign:
            return False
        before = sign
    return True


def check_alphabet(alphabet):
    """Raise InvalidMachine if this is not an alphabet."""
    if not is_alphabet(alphabet):
        raise InvalidMachine("this is not an alphabet")


def are_states(size, value, ascending):
    """Return whether the value is a tuple of states below the size; perhaps only an ascending one counts."""
    if not isinstance(value, tuple):
        return False
    before = -1
    for state in value:
        if type(state) != int or not 0 <= state < size or (ascending and before >= state):
            return False
        before = state
    return True


def are_steps(alphabet, size, value, ascending):
    """Return whether the value is a tuple of steps; perhaps only an ascending one counts."""
    if not isinstance(value, tuple):
        return False
    letters = list(alphabet)
    before = ()
    # Nearly every call begins with this loop, so no function is called in it.
    for step in value:
        if not isinstance(step, tuple) or len(step) != 5:
            return False
        state, letter, restart, cost, goal = step
        if not (
            type(state) == int and type(restart) == int and type(cost) == int and type(goal) == int
            and 0 <= state < size and 0 <= restart <= 1 and 0 <= cost <= MAX_COST and 0 <= goal < size
            and letter in letters and (before < step or not ascending)
        ):
            return False
        before = step
    return True


def is_machine(value):
    """Return whether the value is a machine."""
    if not isinstance(value, tuple) or len(value) != 5:
        return False
    alphabet, size, starts, finals, steps = value
    if not is_alphabet(alphabet) or type(size) != int or not 1 <= size <= MAX_STATES:
        return False
    if not are_states(size, starts, True) or not are_states(size, finals, True):
        return False
    return are_steps(alphabet, size, steps, True) and len(steps) <= MAX_STEPS


def are_parts(alphabet, size, starts, finals, steps):
    """Return whether these are the parts of a machine, but for the order and the number of the steps."""
    if not is_alphabet(alphabet) or type(size) != int or not 1 <= size <= MAX_STATES:
        return False
    if not are_states(size, starts, False) or not are_states(size, finals, False):
        return False
    return are_steps(alphabet, size, steps, False)


def make_machine(alphabet, size, *steps, starts=(0,), finals=()):
    """Return the machine with these parts."""
    return machine_from(alphabet, size, steps, starts, finals)


def machine_from(alphabet, size, steps, starts, finals):
    """Return the machine with these parts; the steps are a tuple."""
    if not are_parts(alphabet, size, starts, finals, steps):
        raise InvalidMachine("there is no machine with these parts")
    kept = ordered(steps)
    if len(kept) > MAX_STEPS:
        raise InvalidMachine("a machine has at most 60 steps")
    return (alphabet, size, ordered(starts), ordered(finals), kept)


def check_machine(machine):
    """Raise InvalidMachine if this is not a machine."""
    if not is_machine(machine):
        raise InvalidMachine("this is not a machine")


def check_machines(machines):
    """Raise an error for the first of these that is not a machine with the alphabet of the first one."""
    for machine in machines:
        check_machine(machine)
        if machine[0] != machines[0][0]:
            raise InvalidOperation("the machines have different alphabets")


def check_state(machine, state):
    """Raise InvalidNumber if this is not a state of the machine."""
    if not is_between(state, 0, machine[1] - 1):
        raise InvalidNumber(state)


def steps_by_letter(machine):
    """Return the dict from each letter to the list of its steps."""
    found = {}
    for letter in machine[0]:
        found[letter] = []
    for step in machine[4]:
        found[step[1]].append(step)
    return found


def steps_from(machine, state):
    """Yield the pairs (index, step) of the steps that begin in the state, in order."""
    check_machine(machine)
    check_state(machine, state)
    for index, step in enumerate(machine[4]):
        if step[0] == state:
            yield (index, step)


def is_meter(value):
    """Return whether the value is a machine in which no step restarts."""
    return is_machine(value) and all([step[2] == 0 for step in value[4]])


def is_plain(value):
    """Return whether the value is a machine in which all costs are 0."""
    return is_machine(value) and all([step[3] == 0 for step in value[4]])


def with_step(machine, step):
    """Return the machine with one more step; the same machine if it has the step."""
    check_machine(machine)
    alphabet, size, starts, finals, steps = machine
    if not are_steps(alphabet, size, (step,), False):
        raise InvalidOperation("this is not a step with the states and letters of the machine")
    if step in steps:
        return machine
    if len(steps) == MAX_STEPS:
        raise TooLarge(MAX_STEPS)
    return (alphabet, size, starts, finals, ordered((*steps, step)))


def without_step(machine, index):
    """Return the machine without the step with this index."""
    check_machine(machine)
    alphabet, size, starts, finals, steps = machine
    if not is_between(index, 0, len(steps) - 1):
        raise InvalidNumber(index)
    return (alphabet, size, starts, finals, steps[:index] + steps[index + 1:])


def reached(states, arrows):
    """Return the list of all states to which the arrows (from, to) lead, also these themselves."""
    found = list(states)
    many = 0
    while many < len(found):
        source = found[many]
        for begin, goal in arrows:
            if begin == source and goal not in found:
                found.append(goal)
        many += 1
    return found


def useful_states(machine):
    """Return the ascending list of the states through which accepted runs pass."""
    ahead = reached(machine[2], [(step[0], step[4]) for step in machine[4]])
    behind = reached(machine[3], [(step[4], step[0]) for step in machine[4]])
    return sorted([state for state in ahead if state in behind])


def trimmed(machine):
    """Return the machine of the useful states, numbered anew in the same order."""
    check_machine(machine)
    alphabet, _, starts, finals, steps = machine
    useful = useful_states(machine)
    if not useful:
        return (alphabet, 1, (), (), ())
    if len(useful) == machine[1]:
        return machine
    places = {state: place for place, state in enumerate(useful)}
    kept = [step for step in steps if step[0] in places and step[4] in places]
    return (
        alphabet,
        len(useful),
        tuple([places[state] for state in starts if state in places]),
        tuple([places[state] for state in finals if state in places]),
        tuple([(places[step[0]], step[1], step[2], step[3], places[step[4]]) for step in kept]),
    )


def without_counts(machine):
    """Return the machine, which is checked, with all restarts and costs 0."""
    alphabet, size, starts, finals, steps = machine
    return (alphabet, size, starts, finals, ordered([(step[0], step[1], 0, 0, step[4]) for step in steps]))


def plain_of(machine):
    """Return the machine in which all restarts and costs are 0."""
    check_machine(machine)
    return without_counts(machine)
