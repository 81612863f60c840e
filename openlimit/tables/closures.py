"""Closures: the tables of all recipes that fit some machines."""

from openlimit.errors import InvalidNumber
from openlimit.kinds import is_between
from openlimit.machines.machines import check_machines
from openlimit.tables.closed import closed_tables
from openlimit.tables.packed import packed_letter, table_from
from openlimit.tables.products import Products

MOST_TUPLES = 300


def check_most(most):
    """Raise InvalidNumber if this is not a number of tuples to which a closure may be limited."""
    if not is_between(most, 1, MOST_TUPLES):
        raise InvalidNumber(most)


def closed_products(machines, most):
    """Return the products that make up the closure of the machines; TooLarge if it has more than so many tuples."""
    products = Products(len(machines), most)
    for letter in machines[0][0]:
        products.add_factor([packed_letter(machine, letter) for machine in machines], ("letter", letter))
    products.add_pumped()
    return products


def ascending_tuples(products):
    """Return the ascending tuple of the tuples of tables."""
    found = []
    ranks = []
    for tables in products.tables():
        named = [table_from(packed) for packed in tables]
        # Tables are compared once, then their places among one another.
        order = sorted(range(len(named)), key=lambda number: named[number])
        found.append([named[number] for number in order])
        places = [0] * len(order)
        for place, number in enumerate(order):
            places[number] = place
        ranks.append(places)
    entries = sorted([tuple([places[number] for places, number in zip(ranks, entry)]) for entry in products.entries()])
    return tuple([tuple([tables[place] for tables, place in zip(found, entry)]) for entry in entries])


def closure(first, *others, most=300):
    """Return the ascending tuple of the tuples of the closure."""
    machines = (first, *others)
    check_machines(machines)
    check_most(most)
    return ascending_tuples(closed_products(machines, most))


def closure_recipe(first, *others, most=300):
    """Return a recipe that fits all machines, with exactly one row for each tuple of the closure."""
    machines = (first, *others)
    check_machines(machines)
    check_most(most)
    return tuple(closed_products(machines, most).rows())


def is_closed(value, first, *others):
    """Return whether the value is an ascending tuple of tuples of tables that is closed."""
    machines = (first, *others)
    check_machines(machines)
    return closed_tables(machines, value) is not None
