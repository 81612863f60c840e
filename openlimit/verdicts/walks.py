"""Pairs of rows of two machines to which words lead."""

from openlimit.errors import TooLarge
from openlimit.machines.machines import steps_by_letter
from openlimit.machines.needs import final_in, row_after, start_row

MAX_PAIRS = 2000


class Rows:
    """The rows of a machine for a cap, numbered as they are found; the row of the empty word has the number 0."""

    def __init__(self, machine, cap):
        self._machine = machine
        self._cap = cap
        self._moves = steps_by_letter(machine)
        self._found = []
        self._numbers = {}
        self._ends = []
        # For each number those of the rows behind each letter, as soon as they are asked for.
        self._further = []
        self.number_of(tuple(start_row(machine)))

    def number_of(self, row):
        """Return the number of the row, perhaps a new one."""
        if row not in self._numbers:
            self._numbers[row] = len(self._found)
            self._found.append(row)
            self._ends.append(final_in(self._machine, row) is not None)
            self._further.append(None)
        return self._numbers[row]

    def row_at(self, number):
        """Return the row with this number."""
        return self._found[number]

    def is_accepted(self, number):
        """Return whether the row has an entry at a final."""
        return self._ends[number]

    def behind(self, number):
        """Return the list of the numbers of the rows behind each letter, in the order of the alphabet."""
        if self._further[number] is None:
            row = self._found[number]
            rows = [tuple(row_after(self._moves, self._cap, row, letter)) for letter in self._machine[0]]
            self._further[number] = [self.number_of(after) for after in rows]
        return self._further[number]

    def behind_word(self, word):
        """Return the number of the row of the word, which may have any length."""
        number = 0
        for letter in word:
            number = self.behind(number)[self._machine[0].index(letter)]
        return number


class Walk:
    """Pairs of numbers of rows (of the second machine, of the first one) to which the words lead, in their order."""

    def __init__(self, alphabet, first, second):
        self._alphabet = alphabet
        self._first = first
        self._second = second
        self._pairs = [(0, 0)]
        # For each pair the place of the one before and the letter between them.
        self._origins = [(0, "")]
        self._seen = {(0, 0): True}

    def is_refused(self, pair):
        """Return whether the second machine accepts and the first one does not."""
        return self._second.is_accepted(pair[0]) and not self._first.is_accepted(pair[1])

    def first_refused(self):
        """Return the first word with a refused pair, or None; TooLarge if too many other pairs are ahead."""
        if self.is_refused((0, 0)):
            return ""
        place = 0
        while place < len(self._pairs):
            many = len(self._pairs)
            self._go_on(place)
            for late in range(many, len(self._pairs)):
                if self.is_refused(self._pairs[late]):
                    return self._word_to(late)
                self._check_many(late + 1)
            place += 1
        return None

    def refused_of_all(self):
        """Return the first word with a refused pair, or None; TooLarge if all words lead to too many pairs."""
        place = 0
        while place < len(self._pairs):
            self._go_on(place)
            self._check_many(len(self._pairs))
            place += 1
        for place, pair in enumerate(self._pairs):
            if self.is_refused(pair):
                return self._word_to(place)
        return None

    def row_pairs(self):
        """Return the list of the pairs of rows themselves."""
        return [(self._second.row_at(other), self._first.row_at(one)) for other, one in self._pairs]

    def _check_many(self, many):
        """Raise TooLarge if these are too many pairs."""
        if many > MAX_PAIRS:
            raise TooLarge(MAX_PAIRS)

    def _go_on(self, place):
        """Add the pairs behind the one at this place that are new."""
        other, one = self._pairs[place]
        for letter, late, early in zip(self._alphabet, self._second.behind(other), self._first.behind(one)):
            pair = (late, early)
            if pair not in self._seen:
                self._seen[pair] = True
                self._pairs.append(pair)
                self._origins.append((place, letter))

    def _word_to(self, place):
        """Return the first word that leads to the pair at this place."""
        letters = []
        while place > 0:
            place, letter = self._origins[place]
            letters.append(letter)
        return "".join(letters[::-1])
