"""Closures: the tables of all recipes that fit some machines."""

from openlimit.errors import InvalidNumber, TooLarge
from openlimit.kinds import is_between
from openlimit.machines.machines import check_machines
from openlimit.tables.packed import (
    has_table_form, is_packed_idempotent, packed_letter, packed_of, packed_pumped, row_times, table_from,
)

MOST_TUPLES = 300


def check_most(most):
    """Raise InvalidNumber if this is not a number of tuples to which a closure may be limited."""
    if not is_between(most, 1, MOST_TUPLES):
        raise InvalidNumber(most)


def letter_tuple(machines, letter):
    """Return the tuple of the packed tables of the letter."""
    return tuple([packed_letter(machine, letter) for machine in machines])


def pumped_tuple(entry):
    """Return the tuple of the pumped tables, or None if not all tables of this tuple are idempotent."""
    if not all([is_packed_idempotent(packed) for packed in entry]):
        return None
    return tuple([packed_pumped(packed) for packed in entry])


class Products:
    """Tuples of packed tables, at most so many, with all products of the factors among them."""

    def __init__(self, most):
        self._most = most
        self._entries = []
        self._places = {}
        # For each tuple the row of a recipe that says it.
        self._rows = []
        # For each factor its place, and for each of its tables a dict from rows to their products with it.
        self._factors = []
        # For each tuple the number of the factors with which it has been multiplied.
        self._done = []

    def entries(self):
        """Return the list of the tuples, in the order in which they were found."""
        return list(self._entries)

    def rows(self):
        """Return the list of the rows of a recipe that says the tuples."""
        return list(self._rows)

    def entry_at(self, place):
        """Return the tuple that was found at this place, or None if there are not so many."""
        return self._entries[place] if place < len(self._entries) else None

    def add_factor(self, entry, row):
        """Add the tuple, unless it is there, and all products with it; TooLarge if they are too many."""
        if entry in self._places:
            return
        self._add(entry, row)
        self._factors.append((self._places[entry], [{} for packed in entry]))
        # Each product of factors is found from the left, so it is enough to multiply by factors from the right.
        place = 0
        while place < len(self._entries):
            while self._done[place] < len(self._factors):
                factor = self._factors[self._done[place]]
                self._done[place] = self._done[place] + 1
                self._add(self._times(self._entries[place], factor), ("then", place, factor[0]))
            place += 1

    def _add(self, entry, row):
        """Add the tuple, unless it is there."""
        if entry not in self._places:
            if len(self._entries) == self._most:
                raise TooLarge(self._most)
            self._places[entry] = len(self._entries)
            self._entries.append(entry)
            self._rows.append(row)
            self._done.append(0)

    def _times(self, entry, factor):
        """Return the tuple of the products of the tables with those of the factor."""
        place, known = factor
        found = []
        for first, second, products in zip(entry, self._entries[place], known):
            # Few different rows stand in very many tables.
            for row in first:
                if row not in products:
                    products[row] = row_times(row, second)
            found.append(tuple([products[row] for row in first]))
        return tuple(found)


def closed_products(machines, most):
    """Return the products that make up the closure of the machines; TooLarge if it has more than so many tuples."""
    products = Products(most)
    for letter in machines[0][0]:
        products.add_factor(letter_tuple(machines, letter), ("letter", letter))
    place = 0
    while products.entry_at(place) is not None:
        pumped = pumped_tuple(products.entry_at(place))
        if pumped is not None:
            products.add_factor(pumped, ("pump", place))
        place += 1
    return products


def tables_from(entry):
    """Return the tuple of tables."""
    return tuple([table_from(packed) for packed in entry])


def closure(first, *others, most=300):
    """Return the ascending tuple of the tuples of the closure."""
    machines = (first, *others)
    check_machines(machines)
    check_most(most)
    return tuple(sorted([tables_from(entry) for entry in closed_products(machines, most).entries()]))


def closure_recipe(first, *others, most=300):
    """Return a recipe that fits all machines, with exactly one row for each tuple of the closure."""
    machines = (first, *others)
    check_machines(machines)
    check_most(most)
    return tuple(closed_products(machines, most).rows())


def are_tuples(machines, value):
    """Return whether the value is an ascending tuple of tuples of tables, one for each machine."""
    if not isinstance(value, tuple):
        return False
    for entry in value:
        if not isinstance(entry, tuple) or len(entry) != len(machines):
            return False
        if not all([has_table_form(machine[1], table) for machine, table in zip(machines, entry)]):
            return False
    return all([low < high for low, high in zip(value, value[1:])])


def has_all_products(entries):
    """Return whether the product of any two of the tuples is among them."""
    products = Products(len(entries))
    try:
        for entry in entries:
            products.add_factor(entry, ("letter", "a"))
    except TooLarge:
        return False
    return True


def is_closed(value, first, *others):
    """Return whether the value is an ascending tuple of tuples of tables that is closed."""
    machines = (first, *others)
    check_machines(machines)
    if not are_tuples(machines, value):
        return False
    entries = [tuple([packed_of(table) for table in entry]) for entry in value]
    known = {entry: True for entry in entries}
    if not all([letter_tuple(machines, letter) in known for letter in machines[0][0]]):
        return False
    pumped = [pumped_tuple(entry) for entry in entries]
    return all([entry is None or entry in known for entry in pumped]) and has_all_products(entries)
