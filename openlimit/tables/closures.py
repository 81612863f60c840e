"""Closures: the tables of all recipes that fit some machines."""

from openlimit.errors import InvalidNumber
from openlimit.kinds import is_between
from openlimit.machines.machines import check_machines
from openlimit.tables.closed import closed_tables
from openlimit.tables.packed import packed_letter, table_from
from openlimit.tables.products import Products

MOST_TUPLES = 300


def check_most(most):
    """Raise InvalidNumber if this is not a number of tuples to which a closure may be limited."""
    if not is_between(most, 1, MOST_TUPLES):
        raise InvalidNumber(most)


def closed_products(machines, most):
    """Return the products that make up the closure of the machines; TooLarge if it has more than so many tuples."""
    products = Products(len(machines), most)
    for letter in machines[0][0]:
        products.add_factor([packed_letter(machine, letter) for machine in machines], ("letter", letter))
    products.add_pumped()
    return products


def ranked(column):
    """Return the ascending list of the tables of these packed ones, and for each of them its place there."""
    tables = [table_from(packed) for packed in column]
    ascending = sorted(tables)
    places = {table: place for place, table in enumerate(ascending)}
    return (ascending, [places[table] for table in tables])


def ascending_tuples(products):
    """Return the ascending tuple of the tuples of tables."""
    # Tables are compared once, then their places among one another.
    columns = [ranked(column) for column in products.tables()]
    ranks = []
    for entry in products.entries():
        ranks.append(tuple([places[number] for (_, places), number in zip(columns, entry)]))
    found = []
    for rank in sorted(ranks):
        found.append(tuple([tables[place] for (tables, _), place in zip(columns, rank)]))
    return tuple(found)


def closure(first, *others, most=300):
    """Return the ascending tuple of the tuples of the closure."""
    machines = (first, *others)
    check_machines(machines)
    check_most(most)
    return ascending_tuples(closed_products(machines, most))


def closure_recipe(first, *others, most=300):
    """Return a recipe that fits all machines, with exactly one row for each tuple of the closure."""
    machines = (first, *others)
    check_machines(machines)
    check_most(most)
    return tuple(closed_products(machines, most).rows())


def is_closed(value, first, *others):
    """Return whether the value is an ascending tuple of tuples of tables that is closed."""
    machines = (first, *others)
    check_machines(machines)
    return closed_tables(machines, value) is not None
