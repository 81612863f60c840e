"""Pairs of rows of two machines to which words lead, and the search for rates among them."""

from openlimit.errors import TooLarge
from openlimit.machines.machines import steps_by_letter
from openlimit.machines.needs import MAX_CAP, final_in, row_after, start_row

MAX_PAIRS = 2000


class Rows:
    """The rows of a machine for a cap, numbered as they are found; the row of the empty word has the number 0."""

    def __init__(self, machine, cap):
        self._machine = machine
        self._cap = cap
        self._moves = steps_by_letter(machine)
        self._found = []
        self._numbers = {}
        # For each number whether the row has an entry at a final.
        self.ends = []
        # For each number those of the rows behind each letter, as soon as they are asked for.
        self._further = []
        self.number_of(tuple(start_row(machine)))

    def number_of(self, row):
        """Return the number of the row, perhaps a new one."""
        number = self._numbers.get(row)
        if number is None:
            number = len(self._found)
            self._numbers[row] = number
            self._found.append(row)
            self.ends.append(final_in(self._machine, row) is not None)
            self._further.append(None)
        return number

    def row_at(self, number):
        """Return the row with this number."""
        return self._found[number]

    def is_accepted(self, number):
        """Return whether the row has an entry at a final."""
        return self.ends[number]

    def behind(self, number):
        """Return the list of the numbers of the rows behind each letter, in the order of the alphabet."""
        found = self._further[number]
        if found is None:
            row = self._found[number]
            found = []
            for letter in self._machine[0]:
                found.append(self.number_of(tuple(row_after(self._moves, self._cap, row, letter))))
            self._further[number] = found
        return found

    def behind_word(self, word):
        """Return the number of the row of the word, which may have any length."""
        number = 0
        for letter in word:
            number = self.behind(number)[self._machine[0].index(letter)]
        return number

    def most_rows(self):
        """Return how many different rows the cap allows at all."""
        most = 1
        for _ in range(self._machine[1]):
            most = most * (self._cap + 2)
        return most

    def many_rows(self):
        """Return the number of the rows to which words lead, or one above MAX_PAIRS if there are more."""
        number = 0
        while number < len(self._found) <= MAX_PAIRS:
            self.behind(number)
            number += 1
        return len(self._found)


class Walk:
    """Pairs of numbers of rows (of the second machine, of the first one) to which the words lead, in their order."""

    def __init__(self, alphabet, first, second):
        self._alphabet = alphabet
        self._first = first
        self._second = second
        self._pairs = [(0, 0)]
        # For each pair the place of the one before and the index of the letter between them.
        self._origins = [(0, 0)]
        self._seen = {(0, 0): True}

    def is_refused(self, pair):
        """Return whether the second machine accepts and the first one does not."""
        return self._second.ends[pair[0]] and not self._first.ends[pair[1]]

    def first_refused(self):
        """Return the first word with a refused pair, or None; TooLarge if too many other pairs are ahead."""
        if self.is_refused((0, 0)):
            return ""
        ones, others = self._first.ends, self._second.ends
        place = 0
        while place < len(self._pairs):
            many = len(self._pairs)
            self._go_on(place)
            for late in range(many, len(self._pairs)):
                other, one = self._pairs[late]
                if others[other] and not ones[one]:
                    return self._word_to(late)
                if late == MAX_PAIRS:
                    raise TooLarge(MAX_PAIRS)
            place += 1
        return None

    def refused_of_all(self):
        """Return the first word with a refused pair, or None; TooLarge if all words lead to too many pairs."""
        place = 0
        while place < len(self._pairs):
            self._go_on(place)
            if len(self._pairs) > MAX_PAIRS:
                raise TooLarge(MAX_PAIRS)
            place += 1
        for place, pair in enumerate(self._pairs):
            if self.is_refused(pair):
                return self._word_to(place)
        return None

    def row_pairs(self):
        """Return the list of the pairs of rows themselves."""
        return [(self._second.row_at(other), self._first.row_at(one)) for other, one in self._pairs]

    def _go_on(self, place):
        """Add the pairs behind the one at this place that are new."""
        other, one = self._pairs[place]
        for index, pair in enumerate(zip(self._second.behind(other), self._first.behind(one))):
            if pair not in self._seen:
                self._seen[pair] = True
                self._pairs.append(pair)
                self._origins.append((place, index))

    def _word_to(self, place):
        """Return the first word that leads to the pair at this place."""
        letters = []
        while place > 0:
            place, index = self._origins[place]
            letters.append(self._alphabet[index])
        return "".join(letters[::-1])


def are_few(first, second):
    """Return whether it is sure, before any walk, that words do not lead to too many pairs of these rows."""
    if first.most_rows() * second.most_rows() <= MAX_PAIRS:
        return True
    return first.many_rows() * second.many_rows() <= MAX_PAIRS


class Climb:
    """The search for rates of a machine over another one, at one cap after another."""

    def __init__(self, first, second):
        self._first = first
        self._second = second
        # The rows of the first machine for the caps from 0 on, as far as they are needed.
        self._rows = []

    def _rows_at(self, number):
        """Return the rows of the first machine for this cap."""
        while len(self._rows) <= number:
            self._rows.append(Rows(self._first, len(self._rows)))
        return self._rows[number]

    def found_at(self, cap, least):
        """Return the rate at the cap, a word that needs so much or None, and the walk that shows that it is enough.

        The rate is known to be at least the number `least`.
        """
        others = Rows(self._second, cap)
        # For each number the first word that needs more.
        words = {}
        for number in range(MAX_CAP + 1):
            rows = self._rows_at(number)
            is_sure = are_few(rows, others)
            # What is not enough, and cannot be too large either, needs no walk.
            if is_sure and number < least:
                continue
            walk = Walk(self._first[0], rows, others)
            words[number] = walk.first_refused() if is_sure else walk.refused_of_all()
            if words[number] is None:
                return (number, self._word_at(number, words, others), walk)
        raise TooLarge(MAX_CAP)

    def _word_at(self, number, words, others):
        """Return the first word that needs more than the number before this one, or None if there is none before."""
        if number == 0:
            return None
        if number - 1 in words:
            return words[number - 1]
        return Walk(self._first[0], self._rows_at(number - 1), others).first_refused()
