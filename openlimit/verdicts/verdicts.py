"""Verdicts: papers that show whether a machine is bounded by another one."""

from openlimit.machines.machines import check_machines, without_counts
from openlimit.tables.closed import closed_tables
from openlimit.tables.closures import ascending_tuples, check_most, closed_products
from openlimit.tables.packed import DEAR, PAID, packed_value
from openlimit.tables.recipes import is_recipe_of, packed_rows
from openlimit.verdicts.walks import Rows, Walk


def accepts(machine, word):
    """Return whether the machine accepts the word, which may have any length."""
    rows = Rows(without_counts(machine), 0)
    return rows.is_accepted(rows.behind_word(word))


def first_never(first, second):
    """Return the first word that the second machine accepts and the first one does not, or None."""
    return Walk(first[0], Rows(without_counts(first), 0), Rows(without_counts(second), 0)).first_refused()


def is_finite(code):
    """Return whether this is the code of restart, free or paid."""
    # All better grades have the bits of the worse ones.
    return (code & PAID) == PAID


def shows_growth(first, second, entry):
    """Return whether the packed tables are dear in the first machine, and not dear or none in the second one."""
    return packed_value(first, entry[0]) == DEAR and is_finite(packed_value(second, entry[1]))


def is_forbidden(first, second, entry):
    """Return whether the packed tables are dear or none in the first machine, and not so in the second one."""
    return not is_finite(packed_value(first, entry[0])) and is_finite(packed_value(second, entry[1]))


def shortened(rows):
    """Return the recipe of the rows without those that its last row does not need."""
    needed = {len(rows) - 1: True}
    for place in reversed(range(len(rows))):
        if place in needed and rows[place][0] != "letter":
            for part in rows[place][1:]:
                needed[part] = True
    places = {place: many for many, place in enumerate(sorted(needed))}
    found = []
    for place in sorted(needed):
        row = rows[place]
        found.append(row if row[0] == "letter" else (row[0], *[places[part] for part in row[1:]]))
    return tuple(found)


def growth_place(machines, products, one, other):
    """Return the place of the first pair of tables that is dear in machine one and finite in the other, or None."""
    tables = products.tables()
    are_dear = [packed_value(machines[one], packed) == DEAR for packed in tables[one]]
    are_finite = [is_finite(packed_value(machines[other], packed)) for packed in tables[other]]
    for place, entry in enumerate(products.entries()):
        if are_dear[entry[one]] and are_finite[entry[other]]:
            return place
    return None


def found_limits(first, second, most):
    """Return for two checked machines a verdict that shows that the first one is not bounded, or None, and the closure.

    The closure is None where a never word was found.
    """
    word = first_never(first, second)
    if word is not None:
        return (("never", word), None)
    products = closed_products((first, second), most)
    place = growth_place((first, second), products, 0, 1)
    if place is None:
        return (None, products)
    return (("grows", shortened(products.rows()[:place + 1])), products)


def are_both_bounded(first, second, most):
    """Return whether each one of two checked machines is bounded by the other one."""
    paper, products = found_limits(first, second, most)
    if paper is not None or first_never(second, first) is not None:
        return False
    # The closure is the same, with the tables of each pair exchanged.
    return growth_place((first, second), products, 1, 0) is None


def unbounded_paper(first, second, most):
    """Return a verdict that the first machine is not bounded by the second one, or None if it is."""
    return found_limits(first, second, most)[0]


def verdict(first, second, *, most=300):
    """Return a verdict, the first never word if there is one."""
    check_machines((first, second))
    check_most(most)
    paper, products = found_limits(first, second, most)
    return ("closed", ascending_tuples(products)) if paper is None else paper


def is_bounded(first, second, *, most=300):
    """Return whether the first machine is bounded by the second one."""
    check_machines((first, second))
    check_most(most)
    return unbounded_paper(first, second, most) is None


def never_word(first, second):
    """Return the first word that the second machine accepts and the first one does not, or None."""
    check_machines((first, second))
    return first_never(first, second)


def is_never(first, second, value):
    """Return whether the value is a word that the second machine accepts and the first one does not."""
    if not isinstance(value, str) or value.strip(first[0]) != "":
        return False
    return accepts(second, value) and not accepts(first, value)


def is_growing(first, second, value):
    """Return whether the value is a recipe that shows growth."""
    if not is_recipe_of(first[0], value):
        return False
    tables = [packed_rows(value, first), packed_rows(value, second)]
    if tables[0] is None or tables[1] is None:
        return False
    return shows_growth(first, second, [rows[-1] for rows in tables])


def is_kept_closed(first, second, value):
    """Return whether the value is a closed tuple of pairs of tables that shows boundedness."""
    entries = closed_tables((first, second), value)
    if entries is None or any([is_forbidden(first, second, entry) for entry in entries]):
        return False
    return accepts(first, "") or not accepts(second, "")


def is_verdict(first, second, value):
    """Return whether the value is a verdict."""
    check_machines((first, second))
    if not isinstance(value, tuple) or len(value) != 2:
        return False
    if value[0] == "never":
        return is_never(first, second, value[1])
    if value[0] == "grows":
        return is_growing(first, second, value[1])
    return value[0] == "closed" and is_kept_closed(first, second, value[1])
