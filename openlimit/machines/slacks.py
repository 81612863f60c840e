"""The needs of short words, for many caps at once.

The slack of a run under a cap is the cap, less the last count. For each state
one integer tells of all caps below a width. It has a field of as many bits for
each cap, that of the cap 0 lowest. In a field the lowest bits are set: one
more than the greatest slack of a run that leads to the state and stays within
the cap, none if there is no such run. So `|` finds the best of several runs,
and `>>` pays a cost, under all caps in one go.

The *fields* of a width are a tuple: the width; a field in which all bits are
set; the integer with the lowest bit of each field; and for each cost the
integer of a run with this last count, under all caps that allow it.
"""

from openlimit.machines.machines import MAX_COST

# The fields of the width 16, written out, as they are needed for nearly every word.
SHORT = (
    16,
    0xFFFF,
    0x0001000100010001000100010001000100010001000100010001000100010001,
    (
        0xFFFF7FFF3FFF1FFF0FFF07FF03FF01FF00FF007F003F001F000F000700030001,
        0x7FFF3FFF1FFF0FFF07FF03FF01FF00FF007F003F001F000F0007000300010000,
        0x3FFF1FFF0FFF07FF03FF01FF00FF007F003F001F000F00070003000100000000,
        0x1FFF0FFF07FF03FF01FF00FF007F003F001F000F000700030001000000000000,
    ),
)


def count_fields(width, count):
    """Return the integer of a run with this last count, under all caps below the width that allow it."""
    found = 0
    for cap in range(count, width):
        found = found | (((1 << (cap - count + 1)) - 1) << (width * cap))
    return found


def fields_of(width):
    """Return the fields of the width."""
    units = sum([1 << (width * cap) for cap in range(width)])
    return (width, (1 << width) - 1, units, tuple([count_fields(width, cost) for cost in range(MAX_COST + 1)]))


def first_slacks(machine, fields):
    """Return the list of the slacks of the empty word, for each state."""
    found = [0] * machine[1]
    for state in machine[2]:
        found[state] = fields[3][0]
    return found


def slacks_behind(moves, fields, slacks, word):
    """Return the list of the slacks and those behind each letter of the word; moves has the steps of each letter."""
    _, full, units, fits = fields
    size = len(slacks)
    behind = [slacks]
    for letter in word:
        found = [0] * size
        for state, _, restart, cost, goal in moves[letter]:
            slack = slacks[state]
            if slack:
                if restart:
                    # The lowest bit of a field tells whether there is a run at all, and this is all that counts.
                    slack = ((slack & units) * full) & fits[cost]
                elif cost:
                    # What comes down from the field above, and what leads above the cap, does not fit.
                    slack = (slack >> cost) & fits[cost]
                found[goal] = found[goal] | slack
        slacks = found
        behind.append(slacks)
    return behind


def least_cap(machine, fields, slacks):
    """Return the least cap below the width under which some run leads to a final, or None."""
    some = 0
    for state in machine[3]:
        some = some | slacks[state]
    caps = some & fields[2]
    if caps == 0:
        return None
    lowest = caps & -caps
    return (lowest.bit_length() - 1) // fields[0]
