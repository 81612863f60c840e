"""Readers: words that grow and shrink, and their needs."""

from openlimit.errors import InvalidNumber, InvalidOperation, TooLarge
from openlimit.kinds import is_between
from openlimit.machines.fronts import first_front, fronts_behind, has_room, need_in, rooms_of, row_in
from openlimit.machines.machines import check_machine, steps_by_letter
from openlimit.machines.needs import MAX_WORD, check_cap, check_word


def further_letters(machine, word, others):
    """Return the letters that the other words, which are checked, add to the word."""
    for other in others:
        check_word(machine, other)
    found = "".join(others)
    if len(word) + len(found) > MAX_WORD:
        raise TooLarge(MAX_WORD)
    return found


def check_room(rooms, front, bound):
    """Raise InvalidOperation if the word with this front cannot be continued within the bound."""
    if not has_room(rooms, front, bound):
        raise InvalidOperation("the word cannot be continued within the bound")


class Reader:
    """A machine and a word that grows and shrinks."""

    LONGEST = 200

    def __init__(self, machine, word=""):
        check_machine(machine)
        check_word(machine, word)
        self._machine = machine
        self._moves = steps_by_letter(machine)
        self._word = word
        # One front and one need for each beginning of the word, the empty one first.
        self._fronts = fronts_behind(self._moves, first_front(machine), word)
        self._least = [need_in(machine, front) for front in self._fronts]

    @property
    def machine(self):
        """The machine."""
        return self._machine

    @property
    def word(self):
        """The word; it can be assigned."""
        return self._word

    @word.setter
    def word(self, value):
        self.put(value)

    @property
    def need(self):
        """The need of the word, or None."""
        return self._least[-1]

    def put(self, word):
        """Make this the word, and return its need."""
        check_word(self._machine, word)
        self._fronts = fronts_behind(self._moves, self._fronts[0], word)
        self._least = [need_in(self._machine, front) for front in self._fronts]
        self._word = word
        return self._least[-1]

    def take(self, *words):
        """Add the words at the end, in order, and return the need."""
        letters = further_letters(self._machine, self._word, words)
        further = fronts_behind(self._moves, self._fronts[-1], letters)[1:]
        self._fronts = self._fronts + further
        self._least = self._least + [need_in(self._machine, front) for front in further]
        self._word = self._word + letters
        return self._least[-1]

    def back(self, many=1):
        """Remove the last letters, and return the need."""
        if not is_between(many, 0, len(self._word)):
            raise InvalidNumber(many)
        left = len(self._word) - many
        self._word = self._word[:left]
        self._fronts = self._fronts[:left + 1]
        self._least = self._least[:left + 1]
        return self._least[-1]

    def needs(self):
        """Yield the needs of all beginnings of the word, the empty one first."""
        # What is done to the reader while they are read does not count.
        found = list(self._least)
        for least in found:
            yield least

    def row(self, cap):
        """Return the row of the word."""
        check_cap(cap)
        return row_in(self._fronts[-1], cap)

    def branch(self):
        """Return an independent reader with the same machine and word."""
        return Reader(self._machine, self._word)

    def __call__(self, word):
        letters = further_letters(self._machine, self._word, (word,))
        return need_in(self._machine, fronts_behind(self._moves, self._fronts[-1], letters)[-1])

    def __add__(self, other):
        return Reader(self._machine, self._word + further_letters(self._machine, self._word, (other,)))

    def __getitem__(self, at):
        if not is_between(at, 0, len(self._word)):
            raise InvalidNumber(at)
        return self._least[at]

    def __iter__(self):
        raise TypeError("a reader cannot be iterated over")

    def __len__(self):
        return len(self._word)

    def __bool__(self):
        return self._least[-1] is not None

    def __str__(self):
        if self._least[-1] is None:
            return f'reader at "{self._word}", no need'
        return f'reader at "{self._word}", need {self._least[-1]}'

    def __eq__(self, other):
        return isinstance(other, Reader) and self._machine == other._machine and self._word == other._word


class LimitedReader(Reader):
    """A reader whose word always can be continued to a word with a need of at most the bound."""

    def __init__(self, machine, bound, word=""):
        check_machine(machine)
        check_cap(bound)
        super().__init__(machine, word)
        self._bound = bound
        self._rooms = rooms_of(machine, bound)
        check_room(self._rooms, self._fronts[-1], bound)

    @property
    def bound(self):
        """The bound."""
        return self._bound

    @property
    def word(self):
        """The word; it can be assigned."""
        return self._word

    @word.setter
    def word(self, value):
        self.put(value)

    def put(self, word):
        """Make this the word, if it can be continued, and return its need."""
        check_word(self._machine, word)
        check_room(self._rooms, fronts_behind(self._moves, self._fronts[0], word)[-1], self._bound)
        return super().put(word)

    def take(self, *words):
        """Add the words at the end, if the whole can be continued, and return the need."""
        letters = further_letters(self._machine, self._word, words)
        check_room(self._rooms, fronts_behind(self._moves, self._fronts[-1], letters)[-1], self._bound)
        return super().take(letters)

    def back(self, many=1):
        """Remove the last letters, and return the need."""
        # What is left can be continued by what was removed.
        return super().back(many)

    def branch(self):
        """Return an independent reader with the same machine, bound and word."""
        return LimitedReader(self._machine, self._bound, self._word)

    def __call__(self, word):
        letters = further_letters(self._machine, self._word, (word,))
        return need_in(self._machine, fronts_behind(self._moves, self._fronts[-1], letters)[-1])

    def __add__(self, other):
        letters = further_letters(self._machine, self._word, (other,))
        return LimitedReader(self._machine, self._bound, self._word + letters)
