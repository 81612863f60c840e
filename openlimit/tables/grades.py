"""Grades of runs, and tables of grades."""

from openlimit.errors import InvalidNumber, InvalidOperation, InvalidTable
from openlimit.kinds import is_between
from openlimit.machines.machines import MAX_STATES, check_machine
from openlimit.machines.needs import check_letter
from openlimit.tables.packed import (
    CODES, NAMES, is_grade, is_packed_idempotent, packed_form, packed_letter, packed_product, packed_pumped,
    packed_value, table_from,
)

GRADES = ("restart", "free", "paid", "dear", "none")
# The sequence of grades is the one that stands last here.
SERIES = ("free", "paid", "restart", "dear", "none")


def check_grades(grades):
    """Raise InvalidOperation if one of these is not a grade."""
    for grade in grades:
        if not is_grade(grade):
            raise InvalidOperation("this is not a grade")


def choice(*grades):
    """Return the choice of the grades."""
    check_grades(grades)
    found = 0
    for grade in grades:
        found = found | CODES[grade]
    return NAMES[found]


def sequence(*grades):
    """Return the sequence of the grades."""
    check_grades(grades)
    return SERIES[max([SERIES.index(grade) for grade in grades], default=0)]


def is_table(size, value):
    """Return whether the value is a table of the size."""
    if not is_between(size, 1, MAX_STATES):
        raise InvalidNumber(size)
    return packed_form(size, value) is not None


def packed_table(size, table):
    """Return the packed table; InvalidTable if this is not a table of the size."""
    packed = packed_form(size, table)
    if packed is None:
        raise InvalidTable("this is not a table of the size")
    return packed


def first_packed(table):
    """Return the packed table; InvalidTable if this is not a table of any size."""
    if not isinstance(table, tuple) or not 1 <= len(table) <= MAX_STATES:
        raise InvalidTable("this is not a table")
    return packed_table(len(table), table)


def table_of(machine, letter):
    """Return the table of the letter."""
    check_machine(machine)
    check_letter(machine, letter)
    return table_from(packed_letter(machine, letter))


def value_of(machine, table):
    """Return the value of the table in the machine."""
    check_machine(machine)
    return NAMES[packed_value(machine, packed_table(machine[1], table))]


def product(table, *tables):
    """Return the product of all tables in order."""
    found = first_packed(table)
    for other in [packed_table(len(found), further) for further in tables]:
        found = packed_product(found, other)
    return table_from(found)


def is_idempotent(table):
    """Return whether the product of the table with itself is itself."""
    return is_packed_idempotent(first_packed(table))


def pumped(table):
    """Return the pumped table of an idempotent table."""
    packed = first_packed(table)
    if not is_packed_idempotent(packed):
        raise InvalidOperation("the table is not idempotent")
    return table_from(packed_pumped(packed))
