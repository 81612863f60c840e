"""Closed sets of tuples of tables."""

from openlimit.tables.packed import (
    is_packed_idempotent, packed_form, packed_letter, packed_product, packed_pumped,
)


def packed_tuples(machines, value):
    """Return the list of the tuples of packed tables, or None if the value is not an ascending tuple of such."""
    if not isinstance(value, tuple):
        return None
    found = []
    tables = [None] * len(machines)
    packed = [None] * len(machines)
    for entry in value:
        if not isinstance(entry, tuple) or len(entry) != len(machines):
            return None
        for place, table in enumerate(entry):
            # In ascending tuples the same table often stands in the same place again.
            if packed[place] is None or table != tables[place]:
                packed[place] = packed_form(machines[place][1], table)
                if packed[place] is None:
                    return None
                tables[place] = table
        found.append(tuple(packed))
    if not all([low < high for low, high in zip(value, value[1:])]):
        return None
    return found


class Column:
    """The tables of one machine in a set of tuples, numbered; their codes are the numbers times the unit."""

    def __init__(self, packed, unit):
        self._unit = unit
        self._numbers = {}
        # For each tuple the number of its table.
        self._places = []
        for table in packed:
            if table not in self._numbers:
                self._numbers[table] = len(self._numbers)
            self._places.append(self._numbers[table])
        self._tables = list(self._numbers)

    def further_unit(self):
        """Return a unit that is greater than the sum of any codes, one for each column so far."""
        return self._unit * (len(self._tables) + 1)

    def code_of(self, packed):
        """Return the code of the table, or None if it is not in the column."""
        number = self._numbers.get(packed)
        return None if number is None else self._unit * number

    def codes(self):
        """Return for each tuple the code of its table."""
        return [self._unit * number for number in self._places]

    def codes_times(self, place):
        """Return for each tuple the code of its table times that of the tuple at this place, None if one is missing."""
        factor = self._tables[self._places[place]]
        products = [self.code_of(packed_product(table, factor)) for table in self._tables]
        return None if None in products else [products[number] for number in self._places]

    def codes_pumped(self):
        """Return for each tuple the pair (whether its table is idempotent, the code of the pumped table or None)."""
        found = []
        for table in self._tables:
            is_right = is_packed_idempotent(table)
            found.append((is_right, self.code_of(packed_pumped(table)) if is_right else None))
        return [found[number] for number in self._places]


def columns_of(entries, size):
    """Return the columns of the tuples, so that the sums of codes of different tuples are different."""
    found = []
    unit = 1
    for place in range(size):
        found.append(Column([entry[place] for entry in entries], unit))
        unit = found[-1].further_unit()
    return found


def summed_codes(lists):
    """Return the list of the sums of what stands in the same place of all lists."""
    found = lists[0]
    for further in lists[1:]:
        found = [one + other for one, other in zip(found, further)]
    return found


def has_letters(machines, columns, places):
    """Return whether the tuples of all letters are among the tuples."""
    for letter in machines[0][0]:
        codes = [column.code_of(packed_letter(machine, letter)) for machine, column in zip(machines, columns)]
        if None in codes or sum(codes) not in places:
            return False
    return True


def has_pumped(columns, places):
    """Return whether the pumped tuple of each tuple whose tables are all idempotent is among the tuples."""
    pumped = [column.codes_pumped() for column in columns]
    for parts in zip(*pumped):
        if all([is_right for is_right, _ in parts]):
            codes = [code for _, code in parts]
            if None in codes or sum(codes) not in places:
                return False
    return True


def goals_times(columns, places, place):
    """Return for each tuple the place of its product with the tuple at this place, or None if one is missing."""
    lists = [column.codes_times(place) for column in columns]
    if None in lists:
        return None
    goals = [places.get(code) for code in summed_codes(lists)]
    return None if None in goals else goals


def has_products(columns, places):
    """Return whether the product of any two of the tuples is among them."""
    # Products with factors from the right are enough, if all tuples are products of factors.
    factors = []
    is_reached = [False] * len(places)
    reached = []
    for place in range(len(places)):
        if is_reached[place]:
            continue
        goals = goals_times(columns, places, place)
        if goals is None:
            return False
        factors.append(goals)
        further = [place, *[goals[other] for other in reached]]
        while further:
            fresh = []
            for other in further:
                if not is_reached[other]:
                    is_reached[other] = True
                    fresh.append(other)
            reached.extend(fresh)
            further = [goals[other] for goals in factors for other in fresh]
    return True


def closed_tables(machines, value):
    """Return the list of the tuples of packed tables if the value is a closed set of tuples of tables, or None."""
    entries = packed_tuples(machines, value)
    if entries is None:
        return None
    columns = columns_of(entries, len(machines))
    codes = summed_codes([column.codes() for column in columns])
    places = {code: place for place, code in enumerate(codes)}
    if not has_letters(machines, columns, places) or not has_pumped(columns, places):
        return None
    return entries if has_products(columns, places) else None
