"""Edits of a desk.

What they change is a *state*: a pair of a dict from names to patterns and a
tuple of promises (first, second, cap, top). An edit makes a new state.
"""

from openlimit.errors import InvalidNumber, InvalidOperation, TooLarge, UnknownName
from openlimit.kinds import is_between
from openlimit.machines.machines import LETTERS
from openlimit.machines.needs import MAX_CAP, check_cap
from openlimit.patterns.patterns import check_pattern
from openlimit.patterns.rewriting import rewritten

MAX_NAME = 8
MAX_NAMES = 12
MAX_PROMISES = 12
# For each kind of edit how many parts it has, its word included.
PARTS = {"set": 3, "remove": 2, "rename": 3, "rewrite": 5, "promise": 5, "drop": 2}


def is_name(value):
    """Return whether the value is a string of one to eight lowercase letters."""
    return isinstance(value, str) and 1 <= len(value) <= MAX_NAME and value.strip(LETTERS) == ""


def has_name(names, value):
    """Return whether the value, which may be any, is one of the names."""
    return isinstance(value, str) and value in names


def check_known(names, value):
    """Raise UnknownName if this is not one of the names."""
    if not has_name(names, value):
        raise UnknownName(value)


def check_top(top):
    """Raise InvalidNumber if this is neither a cap nor None."""
    if top is not None and not is_between(top, 0, MAX_CAP):
        raise InvalidNumber(top)


def has_edit_form(value):
    """Return whether the value is a tuple with the word of an edit and as many parts."""
    if not isinstance(value, tuple) or len(value) == 0 or not isinstance(value[0], str):
        return False
    return value[0] in PARTS and len(value) == PARTS[value[0]]


def with_pattern(patterns, name, pattern):
    """Return the dict of patterns in which the name has this pattern."""
    found = {known: patterns[known] for known in patterns}
    found[name] = pattern
    return found


def state_set(alphabet, state, parts):
    """Return the state in which the name has the pattern."""
    patterns, promises = state
    name, pattern = parts
    if not is_name(name):
        raise InvalidOperation("this is not a name")
    check_pattern(pattern)
    if not all([letter in alphabet for letter in pattern.letters]):
        raise InvalidOperation("a letter of the pattern is not in the alphabet")
    if name not in patterns and len(patterns) == MAX_NAMES:
        raise TooLarge(MAX_NAMES)
    return (with_pattern(patterns, name, pattern), promises)


def state_removed(alphabet, state, parts):
    """Return the state without the name."""
    patterns, promises = state
    name = parts[0]
    check_known(patterns, name)
    if any([name in promise[:2] for promise in promises]):
        raise InvalidOperation("a promise has the name")
    return ({known: patterns[known] for known in patterns if known != name}, promises)


def state_renamed(alphabet, state, parts):
    """Return the state in which a name, also in promises, has become another one."""
    patterns, promises = state
    old, new = parts
    check_known(patterns, old)
    if not is_name(new) or new in patterns:
        raise InvalidOperation("the new name is none, or is there")
    names = {known: new if known == old else known for known in patterns}
    kept = [(names[first], names[second], cap, top) for first, second, cap, top in promises]
    return ({names[known]: patterns[known] for known in patterns}, tuple(kept))


def state_rewritten(alphabet, state, parts):
    """Return the state in which the pattern of the name is rewritten."""
    patterns, promises = state
    name, rule, path, back = parts
    check_known(patterns, name)
    return (with_pattern(patterns, name, rewritten(patterns[name], rule, path, back=back)), promises)


def state_promised(alphabet, state, parts):
    """Return the state with one more promise."""
    patterns, promises = state
    first, second, cap, top = parts
    check_known(patterns, first)
    check_known(patterns, second)
    check_cap(cap)
    check_top(top)
    if len(promises) == MAX_PROMISES:
        raise TooLarge(MAX_PROMISES)
    return (patterns, (*promises, (first, second, cap, top)))


def state_dropped(alphabet, state, parts):
    """Return the state without the promise with this index."""
    patterns, promises = state
    index = parts[0]
    if not is_between(index, 0, len(promises) - 1):
        raise InvalidNumber(index)
    return (patterns, promises[:index] + promises[index + 1:])


# All of them are called with the alphabet, the state, and the parts of the edit behind its word.
ACTIONS = {
    "set": state_set,
    "remove": state_removed,
    "rename": state_renamed,
    "rewrite": state_rewritten,
    "promise": state_promised,
    "drop": state_dropped,
}


def state_behind(alphabet, state, edits):
    """Return the state behind the edits, one after another."""
    found = state
    for edit in edits:
        if not has_edit_form(edit):
            raise InvalidOperation("this is not an edit")
        action = ACTIONS[edit[0]]
        found = action(alphabet, found, edit[1:])
    return found
