"""Tables in which each row is one integer.

A row has four fields of eight bits, with a bit for each state. The lowest
field tells where there is any run, the others where there is one that is at
least paid, at least free, and a restart. So the code of a better grade has all
bits of a worse one, and `|` is the choice of whole rows.
"""

RESTART = 0x01010101
FREE = 0x00010101
PAID = 0x00000101
DEAR = 0x00000001
CODES = {"restart": 0x01010101, "free": 0x00010101, "paid": 0x00000101, "dear": 0x00000001, "none": 0}
NAMES = {0x01010101: "restart", 0x00010101: "free", 0x00000101: "paid", 0x00000001: "dear", 0: "none"}


def is_grade(value):
    """Return whether the value is a grade."""
    return isinstance(value, str) and value in CODES


def has_table_form(size, value):
    """Return whether the value is a table of the size."""
    if not isinstance(value, tuple) or len(value) != size:
        return False
    for row in value:
        if not isinstance(row, tuple) or len(row) != size or not all([is_grade(grade) for grade in row]):
            return False
    return True


def packed_of(table):
    """Return the packed table."""
    return tuple([sum([CODES[grade] << place for place, grade in enumerate(row)]) for row in table])


def table_from(packed):
    """Return the table with these packed rows."""
    places = range(len(packed))
    return tuple([tuple([NAMES[(row >> place) & RESTART] for place in places]) for row in packed])


def row_after(code, row):
    """Return the sequences of the grade with this code, which is not none, and the grades of the row."""
    if code == FREE:
        return row
    if code == PAID:
        # What is free becomes paid, what is a restart stays one.
        return (row & 0xFF00FFFF) | ((row >> 8) & 0x00FF0000)
    if code == RESTART:
        return (row & 0xFF) | ((row >> 8) & 0xFF) * 0x01010100
    return row & 0xFF


def row_times(row, packed):
    """Return the row of the product to which this row of the first table leads."""
    found = 0
    for place, behind in enumerate(packed):
        code = (row >> place) & RESTART
        if code:
            found = found | row_after(code, behind)
    return found


def packed_product(first, second):
    """Return the product of two packed tables."""
    return tuple([row_times(row, second) for row in first])


def packed_letter(machine, letter):
    """Return the packed table of the letter."""
    rows = [0] * machine[1]
    for state, sign, restart, cost, goal in machine[4]:
        if sign == letter:
            code = RESTART if restart else PAID if cost else FREE
            rows[state] = rows[state] | (code << goal)
    return tuple(rows)


def is_packed_idempotent(packed):
    """Return whether the product of the packed table with itself is itself."""
    return packed_product(packed, packed) == packed


def packed_pumped(packed):
    """Return the pumped table of an idempotent packed table."""
    loops = []
    for place, row in enumerate(packed):
        code = (row >> place) & RESTART
        loops.append((DEAR if code == PAID else code) << place)
    return packed_product(packed_product(packed, loops), packed)


def packed_value(machine, packed):
    """Return the code of the value of the packed table."""
    found = 0
    for start in machine[2]:
        for final in machine[3]:
            found = found | ((packed[start] >> final) & RESTART)
    return found
