"""Reading a written word from left to right, with the row of a machine in front of each of its rows."""

from openlimit.errors import TooLarge
from openlimit.machines.machines import steps_by_letter
from openlimit.machines.needs import row_after

MAX_PAIRS = 2000


class Reading:
    """What was met so far: pairs of an index of the written word and a row of the machine in front of it."""

    def __init__(self, machine, cap, written):
        self._written = written
        self._cap = cap
        self._moves = steps_by_letter(machine)
        # For each letter the rows behind it, by the rows in front of it.
        self._steps = {letter: {} for letter in machine[0]}
        self._met = {}
        self._behind = {}
        # For each pair with a repeat the rows in front of what is repeated, and the places of these rows.
        self._fronts = {}
        self._places = {}

    def follow(self, row):
        """Return the row behind the whole word, with this row in front of it."""
        whole = (len(self._written) - 1, row)
        self._meet(whole)
        # A list instead of calls within calls, as written words may be nested hundreds deep.
        waiting = [whole]
        while waiting:
            further = self._go_on(waiting[-1])
            if further is None:
                waiting.pop()
            else:
                self._meet(further)
                waiting.append(further)
        return self._behind[whole]

    def _meet(self, pair):
        """Count the pair; TooLarge if there are too many different ones."""
        self._met[pair] = True
        if len(self._met) > MAX_PAIRS:
            raise TooLarge(MAX_PAIRS)

    def _go_on(self, pair):
        """Return a pair that must be read first, or None if the row behind this one is found."""
        index, row = pair
        told = self._written[index]
        if told[0] == "times":
            return self._repeat(pair, told[1], told[2])
        if told[0] == "word":
            self._behind[pair] = self._behind_word(row, told[1])
            return None
        first = (told[1], row)
        if first not in self._behind:
            return first
        second = (told[2], self._behind[first])
        if second not in self._behind:
            return second
        self._behind[pair] = self._behind[second]
        return None

    def _behind_word(self, row, word):
        """Return the row behind the word."""
        for letter in word:
            known = self._steps[letter]
            if row not in known:
                known[row] = tuple(row_after(self._moves, self._cap, row, letter))
            row = known[row]
        return row

    def _repeat(self, pair, part, times):
        """Return a pair that must be read first, or None if the row behind all repeats is found."""
        fronts = self._fronts.setdefault(pair, [pair[1]])
        places = self._places.setdefault(pair, {pair[1]: 0})
        while len(fronts) <= times:
            here = (part, fronts[-1])
            if here not in self._behind:
                return here
            row = self._behind[here]
            if row in places:
                # From here on the same rows come again and again.
                begin = places[row]
                self._behind[pair] = fronts[begin + (times - begin) % (len(fronts) - begin)]
                return None
            places[row] = len(fronts)
            fronts.append(row)
        self._behind[pair] = fronts[times]
        return None
