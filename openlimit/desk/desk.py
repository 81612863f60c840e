"""Desks, on which patterns carry promised limits while they are edited."""

from openlimit.desk.edits import check_known, has_name, state_behind
from openlimit.errors import Broken, InvalidNumber, InvalidOperation, NothingToUndo
from openlimit.kinds import is_between
from openlimit.machines.machines import check_alphabet
from openlimit.tables.closures import MOST_TUPLES, check_most
from openlimit.verdicts.verdicts import unbounded_paper
from openlimit.verdicts.walks import Climb


def status_of(alphabet, patterns, promise, room):
    """Return ("kept", rate), ("over", rate), or the verdict that shows that the first pattern is not bounded."""
    first, second, cap, top = promise
    machines = [patterns[name].machine_for(alphabet) for name in (first, second)]
    paper = unbounded_paper(machines[0], machines[1], room)
    if paper is not None:
        return paper
    if top is None:
        return ("kept", None)
    number = Climb(machines[0], machines[1]).found_at(cap, 0)[0]
    return ("kept" if number <= top else "over", number)


def check_many(many, most):
    """Raise InvalidNumber if this is not an integer of at least 0, NothingToUndo if it is more than there are."""
    if type(many) != int or many < 0:
        raise InvalidNumber(many)
    if many > most:
        raise NothingToUndo(many)


class Desk:
    """Patterns with names, promises on them, and groups of edits that can be undone."""

    def __init__(self, alphabet):
        check_alphabet(alphabet)
        self._alphabet = alphabet
        self._room = MOST_TUPLES
        # The patterns and the promises; no part of a state is ever changed.
        self._state = ({}, ())
        # The groups in effect, each with the state ahead of it, and those taken back, each with the state behind it.
        self._past = ()
        self._ahead = ()
        # So many of the groups in effect are from before a trial.
        self._floor = 0

    @property
    def alphabet(self):
        """The alphabet."""
        return self._alphabet

    @property
    def patterns(self):
        """The dict from the names to the patterns."""
        return {name: self._state[0][name] for name in sorted(self._state[0])}

    @property
    def promises(self):
        """The tuple of the promises."""
        return self._state[1]

    @property
    def room(self):
        """The number of tuples to which closures are limited; it can be assigned."""
        return self._room

    @room.setter
    def room(self, value):
        self.set_room(value)

    def set_room(self, number):
        """Limit closures to so many tuples."""
        check_most(number)
        self._room = number

    def apply(self, *edits):
        """Make the edits as one group, and return the number of groups in effect."""
        if edits:
            self._keep(edits, state_behind(self._alphabet, self._state, edits))
        return len(self._past)

    def _keep(self, edits, state):
        """Make this the state behind a new group of these edits."""
        self._past = (*self._past, (edits, self._state))
        self._ahead = ()
        self._state = state

    def undo(self, *, many=1):
        """Take the last groups back, and return the number of groups in effect."""
        check_many(many, len(self._past) - self._floor)
        for _ in range(many):
            group, before = self._past[-1]
            self._past = self._past[:-1]
            self._ahead = ((group, self._state), *self._ahead)
            self._state = before
        return len(self._past)

    def redo(self, *, many=1):
        """Make the groups again that were taken back last, and return the number of groups in effect."""
        check_many(many, len(self._ahead))
        for _ in range(many):
            group, behind = self._ahead[0]
            self._ahead = self._ahead[1:]
            self._past = (*self._past, (group, self._state))
            self._state = behind
        return len(self._past)

    def trial(self, edits, call):
        """Make the edits as one group, return what the call of the desk returns, and take everything back."""
        if not isinstance(edits, tuple):
            raise InvalidOperation("the edits of a trial are a tuple")
        state, past, ahead, floor = self._state, self._past, self._ahead, self._floor
        self._floor = len(past)
        try:
            self.apply(*edits)
            return call(self)
        finally:
            self._state, self._past, self._ahead, self._floor = state, past, ahead, floor

    def status(self, index):
        """Return how it stands with the promise."""
        patterns, promises = self._state
        if not is_between(index, 0, len(promises) - 1):
            raise InvalidNumber(index)
        return status_of(self._alphabet, patterns, promises[index], self._room)

    def broken(self):
        """Yield (index, status) of all promises that are not kept, in order."""
        # What is done to the desk while they are looked at does not count.
        alphabet, room = self._alphabet, self._room
        patterns, promises = self._state
        for index, promise in enumerate(promises):
            found = status_of(alphabet, patterns, promise, room)
            if found[0] != "kept":
                yield (index, found)

    def log(self):
        """Return the tuple of the groups in effect."""
        return tuple([group for group, _ in self._past])

    def copied(self):
        """Return an independent desk with the same alphabet, patterns, promises and room, without groups."""
        found = Desk(self._alphabet)
        found._state = self._state
        found._room = self._room
        return found

    def __call__(self, name, text):
        check_known(self._state[0], name)
        pattern = self._state[0][name]
        return pattern(text)

    def __getitem__(self, at):
        check_known(self._state[0], at)
        return self._state[0][at]

    def __iter__(self):
        raise TypeError("a desk cannot be iterated over")

    def __contains__(self, name):
        return has_name(self._state[0], name)

    def __len__(self):
        return len(self._state[0])

    def __str__(self):
        return f"desk of {self._alphabet}: {len(self._state[0])} patterns, {len(self._state[1])} promises"

    def __eq__(self, other):
        return isinstance(other, Desk) and self._alphabet == other._alphabet and self._state == other._state


def check_promises(alphabet, state, room):
    """Raise Broken with the first name of the first promise that is not kept in the state."""
    patterns, promises = state
    for promise in promises:
        if status_of(alphabet, patterns, promise, room)[0] != "kept":
            raise Broken(promise[0])


class StrictDesk(Desk):
    """A desk on which all promises are kept."""

    # All methods stand here once more, as each class has its own; broken() alone cannot, as it is a generator.

    def __init__(self, alphabet):
        super().__init__(alphabet)

    @property
    def alphabet(self):
        """The alphabet."""
        return self._alphabet

    @property
    def patterns(self):
        """The dict from the names to the patterns."""
        return {name: self._state[0][name] for name in sorted(self._state[0])}

    @property
    def promises(self):
        """The tuple of the promises."""
        return self._state[1]

    @property
    def room(self):
        """The number of tuples to which closures are limited; it can be assigned."""
        return self._room

    @room.setter
    def room(self, value):
        self.set_room(value)

    def set_room(self, number):
        """Limit closures to so many tuples."""
        super().set_room(number)

    def apply(self, *edits):
        """Make the edits as one group that leaves all promises kept, and return the number of groups in effect."""
        if edits:
            state = state_behind(self._alphabet, self._state, edits)
            check_promises(self._alphabet, state, self._room)
            self._keep(edits, state)
        return len(self._past)

    def undo(self, *, many=1):
        """Take the last groups back, and return the number of groups in effect."""
        return super().undo(many=many)

    def redo(self, *, many=1):
        """Make the groups again that were taken back last, and return the number of groups in effect."""
        return super().redo(many=many)

    def trial(self, edits, call):
        """Make the edits as one group, return what the call of the desk returns, and take everything back."""
        return super().trial(edits, call)

    def status(self, index):
        """Return how it stands with the promise."""
        return super().status(index)

    def log(self):
        """Return the tuple of the groups in effect."""
        return super().log()

    def copied(self):
        """Return an independent strict desk with the same alphabet, patterns, promises and room, without groups."""
        found = StrictDesk(self._alphabet)
        found._state = self._state
        found._room = self._room
        return found

    def __call__(self, name, text):
        check_known(self._state[0], name)
        pattern = self._state[0][name]
        return pattern(text)

    def __getitem__(self, at):
        check_known(self._state[0], at)
        return self._state[0][at]

    def __iter__(self):
        raise TypeError("a desk cannot be iterated over")

    def __contains__(self, name):
        return has_name(self._state[0], name)

    def __len__(self):
        return len(self._state[0])

    def __str__(self):
        return f"desk of {self._alphabet}: {len(self._state[0])} patterns, {len(self._state[1])} promises"

    def __eq__(self, other):
        return isinstance(other, Desk) and self._alphabet == other._alphabet and self._state == other._state
