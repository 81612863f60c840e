"""The needs of very many short words, for all caps at once.

The slack of a run under a cap is the cap, less the last count. For each state
one integer tells of all caps. It has a field of bits for each cap, that of the
cap 0 lowest. In a field the lowest bits are set: one more than the greatest
slack of a run that leads to the state and stays within the cap, none if there
is no such run. So `|` finds the best of several runs, and `>>` pays a cost,
under all caps in one go.
"""

from openlimit.machines.machines import MAX_COST, steps_by_letter


class Slacks:
    """How the slacks in a machine change letter by letter, for words up to a length."""

    def __init__(self, machine, length):
        self.size = machine[1]
        self.starts = machine[2]
        self.finals = machine[3]
        # No count of a word with so many letters is above the last cap, and no slack needs more bits.
        self.width = MAX_COST * length + 1
        self.full = (1 << self.width) - 1
        self.fits = [self.fields(cost) for cost in range(MAX_COST + 1)]
        self.units = sum([1 << (self.width * cap) for cap in range(self.width)])
        self.moves = steps_by_letter(machine)

    def fields(self, count):
        """Return the integer with the slacks of a run with this last count, under all caps that allow it."""
        found = 0
        for cap in range(count, self.width):
            found |= ((1 << (cap - count + 1)) - 1) << (self.width * cap)
        return found

    def opening(self):
        """Return the list of the slacks of the empty word, for each state."""
        return [self.fits[0] if state in self.starts else 0 for state in range(self.size)]

    def behind(self, slacks, letter):
        """Return the list of the slacks behind one more letter."""
        full, fits, units = self.full, self.fits, self.units
        found = [0] * self.size
        for state, _, restart, cost, goal in self.moves[letter]:
            slack = slacks[state]
            if restart:
                # The lowest bit of a field tells whether there is a run at all, and this is all that counts.
                slack = (slack & units) * full
            # What comes down from the field above, and what leads above the cap, does not fit.
            found[goal] |= (slack >> cost) & fits[cost]
        return found

    def least_cap(self, slacks):
        """Return the least cap under which some run leads to a final, or None."""
        some = 0
        for state in self.finals:
            some |= slacks[state]
        caps = some & self.units
        if caps == 0:
            return None
        lowest = caps & -caps
        return (lowest.bit_length() - 1) // self.width
