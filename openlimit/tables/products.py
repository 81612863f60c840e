"""Products of tables, and of tuples of tables, with some of them, which are called factors.

Each product of several factors is found from the left, so it is enough to
multiply by factors from the right.
"""

from openlimit.errors import TooLarge
from openlimit.tables.packed import is_packed_idempotent, packed_pumped, row_times


class Tables:
    """The packed tables of one machine, numbered as they are found, with all products with the factors among them."""

    def __init__(self, most):
        self._most = most
        self._found = []
        self._numbers = {}
        # For each factor the table, a dict from rows to their products with it, and the numbers of all tables times it.
        self._factors = []
        # For the number of each factor its place among them.
        self._places = {}
        # So many tables have been multiplied by all factors.
        self._done = 0
        # For the numbers of tables the pumped tables, None for those that are not idempotent.
        self._pumped = {}

    def found(self):
        """Return the list of the tables, in the order of their numbers."""
        return list(self._found)

    def number_of(self, packed):
        """Return the number of the table, perhaps a new one; TooLarge if there are too many tables."""
        number = self._numbers.get(packed)
        if number is None:
            number = len(self._found)
            if number == self._most:
                raise TooLarge(self._most)
            self._numbers[packed] = number
            self._found.append(packed)
        return number

    def products_with(self, number):
        """Return the list of the numbers of all tables times this factor; it grows as tables are found."""
        if number not in self._places:
            self._places[number] = len(self._factors)
            self._factors.append((self._found[number], {}, []))
            before = self._found[:self._done]
            for packed in before:
                self._multiply(packed, self._factors[-1:])
        while self._done < len(self._found):
            self._multiply(self._found[self._done], self._factors)
            self._done += 1
        return self._factors[self._places[number]][2]

    def _multiply(self, packed, factors):
        """Find the products of the table with these factors."""
        for factor, known, numbers in factors:
            # Few different rows stand in very many tables.
            for row in packed:
                if row not in known:
                    known[row] = row_times(row, factor)
            numbers.append(self.number_of(tuple([known[row] for row in packed])))

    def pumped_of(self, number):
        """Return the pumped table of the table with this number, or None if it is not idempotent."""
        if number not in self._pumped:
            packed = self._found[number]
            self._pumped[number] = packed_pumped(packed) if is_packed_idempotent(packed) else None
        return self._pumped[number]


class Products:
    """Tuples of tables, at most so many, with all products with the factors among them.

    A tuple has the numbers of its tables instead of these.
    """

    def __init__(self, size, most):
        self._most = most
        self._tables = [Tables(most) for _ in range(size)]
        self._entries = []
        self._places = {}
        # For each tuple the row of a recipe that says it.
        self._rows = []
        # For each factor its place, and for each of its tables the numbers of the products with it.
        self._factors = []
        # For each tuple the number of the factors with which it has been multiplied.
        self._done = []

    def entries(self):
        """Return the list of the tuples, in the order in which they were found."""
        return list(self._entries)

    def rows(self):
        """Return the list of the rows of a recipe that says the tuples."""
        return list(self._rows)

    def tables(self):
        """Return the list of the lists of the packed tables of each machine, in the order of their numbers."""
        return [tables.found() for tables in self._tables]

    def add_factor(self, packed, row):
        """Add the tuple of these packed tables, and all products with it; TooLarge if there are too many tuples."""
        entry = tuple([tables.number_of(one) for tables, one in zip(self._tables, packed)])
        if entry in self._places:
            return
        self._add(entry, row)
        products = [tables.products_with(number) for tables, number in zip(self._tables, entry)]
        self._factors.append((self._places[entry], products))
        place = 0
        while place < len(self._entries):
            if self._done[place] < len(self._factors):
                self._multiply(place, self._factors[self._done[place]:])
                self._done[place] = len(self._factors)
            place += 1

    def add_pumped(self):
        """Add the tuples of the pumped tables of all tuples of idempotent tables as factors."""
        place = 0
        while place < len(self._entries):
            pumped = [tables.pumped_of(number) for tables, number in zip(self._tables, self._entries[place])]
            if None not in pumped:
                self.add_factor(pumped, ("pump", place))
            place += 1

    def _multiply(self, place, factors):
        """Add the products of the tuple at this place with these factors."""
        entry = self._entries[place]
        for other, products in factors:
            if len(entry) == 2:
                # The same as below, in a third of the time: most closures are those of two machines.
                found = (products[0][entry[0]], products[1][entry[1]])
            else:
                found = tuple([known[number] for known, number in zip(products, entry)])
            if found not in self._places:
                self._add(found, ("then", place, other))

    def _add(self, entry, row):
        """Add the tuple, which is new."""
        if len(self._entries) == self._most:
            raise TooLarge(self._most)
        self._places[entry] = len(self._entries)
        self._entries.append(entry)
        self._rows.append(row)
        self._done.append(0)
