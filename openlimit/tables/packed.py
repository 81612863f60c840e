"""Tables in which each row is one integer.

A row has four fields of eight bits, with a bit for each state. The lowest
field tells where there is any run, the others where there is one that is at
least paid, at least free, and a restart. So the code of a better grade has all
bits of a worse one, and `|` is the choice of whole rows.
"""

RESTART = 0x01010101
FREE = 0x00010101
PAID = 0x00000101
DEAR = 0x00000001
CODES = {"restart": 0x01010101, "free": 0x00010101, "paid": 0x00000101, "dear": 0x00000001, "none": 0}
# The grades, the most common ones first.
ORDER = ("none", "free", "paid", "restart", "dear")
NAMES = {0x01010101: "restart", 0x00010101: "free", 0x00000101: "paid", 0x00000001: "dear", 0: "none"}


def is_grade(value):
    """Return whether the value is a grade."""
    return isinstance(value, str) and value in CODES


def packed_form(size, value):
    """Return the packed table if the value is a table of the size, or None."""
    if not isinstance(value, tuple) or len(value) != size:
        return None
    found = []
    for row in value:
        if not isinstance(row, tuple) or len(row) != size:
            return None
        bits = 0
        for grade in row[::-1]:
            # Looked for in a tuple, as what is no grade may be no key of a dict either.
            if grade not in ORDER:
                return None
            bits = (bits << 1) | CODES[grade]
        found.append(bits)
    return tuple(found)


def table_from(packed):
    """Return the table with these packed rows."""
    found = []
    for row in packed:
        names = []
        for _ in packed:
            names.append(NAMES[row & RESTART])
            row = row >> 1
        found.append(tuple(names))
    return tuple(found)


def row_times(row, packed):
    """Return the row of the product to which this row of the first table leads."""
    found = 0
    for behind in packed:
        # The sequences of the grade with this code and the grades of the row behind it.
        code = row & RESTART
        if code == FREE:
            found = found | behind
        elif code == PAID:
            # What is free becomes paid, what is a restart stays one.
            found = found | (behind & 0xFF00FFFF) | ((behind >> 8) & 0x00FF0000)
        elif code == RESTART:
            found = found | (behind & 0xFF) | ((behind >> 8) & 0xFF) * 0x01010100
        elif code == DEAR:
            found = found | (behind & 0xFF)
        row = row >> 1
    return found


def packed_product(first, second):
    """Return the product of two packed tables."""
    return tuple([row_times(row, second) for row in first])


def packed_letter(machine, letter):
    """Return the packed table of the letter."""
    rows = [0] * machine[1]
    for state, sign, restart, cost, goal in machine[4]:
        if sign == letter:
            code = RESTART if restart else PAID if cost else FREE
            rows[state] = rows[state] | (code << goal)
    return tuple(rows)


def is_packed_idempotent(packed):
    """Return whether the product of the packed table with itself is itself."""
    for row in packed:
        if row_times(row, packed) != row:
            return False
    return True


def packed_pumped(packed):
    """Return the pumped table of an idempotent packed table."""
    codes = [(row >> place) & RESTART for place, row in enumerate(packed)]
    # Each entry of an idempotent table is that of some way through a loop, so only paid loops change anything.
    if PAID not in codes:
        return packed
    behind = [row_times(DEAR if code == PAID else code, (row,)) for code, row in zip(codes, packed)]
    return packed_product(packed, behind)


def packed_value(machine, packed):
    """Return the code of the value of the packed table."""
    found = 0
    for start in machine[2]:
        for final in machine[3]:
            found = found | ((packed[start] >> final) & RESTART)
    return found
