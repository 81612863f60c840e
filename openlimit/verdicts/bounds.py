"""Rates, and the papers that show them."""

from openlimit.errors import Unlimited
from openlimit.kinds import is_between
from openlimit.machines.machines import check_machines
from openlimit.machines.needs import MAX_CAP, check_cap, is_row
from openlimit.tables.closures import check_most
from openlimit.verdicts.verdicts import unbounded_paper
from openlimit.verdicts.walks import Climb, Rows


def check_limited(first, second, most):
    """Raise Unlimited with the verdict if the first machine is not bounded by the second one."""
    paper = unbounded_paper(first, second, most)
    if paper is not None:
        raise Unlimited(paper)


def pair_key(pair):
    """Return what the pair of rows is compared by: None is greater than all integers."""
    return [MAX_CAP + 1 if entry is None else entry for row in pair for entry in row]


def found_paper(climb, cap, least):
    """Return a bound paper for the cap, where the rate is at least the number `least`."""
    number, word, walk = climb.found_at(cap, least)
    return (number, tuple(sorted(walk.row_pairs(), key=pair_key)), word)


def limited_climb(first, second, cap, most):
    """Return the search for rates, after all that must be checked ahead of it."""
    check_machines((first, second))
    check_cap(cap)
    check_most(most)
    check_limited(first, second, most)
    return Climb(first, second)


def rate(first, second, cap, *, most=300):
    """Return the rate at the cap."""
    return limited_climb(first, second, cap, most).found_at(cap, 0)[0]


def bound_paper(first, second, cap, *, most=300):
    """Return a bound paper for the cap."""
    return found_paper(limited_climb(first, second, cap, most), cap, 0)


def are_row_pairs(first, second, cap, number, value):
    """Return whether the value is an ascending tuple of pairs that have the form of rows for these caps."""
    if not isinstance(value, tuple):
        return False
    for pair in value:
        if not isinstance(pair, tuple) or len(pair) != 2:
            return False
        if not is_row(second[1], cap, pair[0]) or not is_row(first[1], number, pair[1]):
            return False
    keys = [pair_key(pair) for pair in value]
    return all([low < high for low, high in zip(keys, keys[1:])])


def are_kept_pairs(first_rows, second_rows, pairs):
    """Return whether the pairs contain the first one, and with each pair those behind it, and refuse no word."""
    known = {}
    for pair in pairs:
        known[(second_rows.number_of(pair[0]), first_rows.number_of(pair[1]))] = True
    if (0, 0) not in known:
        return False
    for other, one in known:
        if second_rows.is_accepted(other) and not first_rows.is_accepted(one):
            return False
        if not all([pair in known for pair in zip(second_rows.behind(other), first_rows.behind(one))]):
            return False
    return True


def is_word_for(first, second, cap, number, value):
    """Return whether the word needs at most the cap in the second machine, and just the number in the first one."""
    if number == 0:
        return value is None
    if not isinstance(value, str) or value.strip(first[0]) != "":
        return False
    found = []
    for rows in (Rows(second, cap), Rows(first, number), Rows(first, number - 1)):
        found.append(rows.is_accepted(rows.behind_word(value)))
    return found == [True, True, False]


def is_bound_paper(first, second, cap, value):
    """Return whether the value is a bound paper."""
    check_machines((first, second))
    check_cap(cap)
    if not isinstance(value, tuple) or len(value) != 3:
        return False
    number, pairs, word = value
    if not is_between(number, 0, MAX_CAP) or not are_row_pairs(first, second, cap, number, pairs):
        return False
    if not are_kept_pairs(Rows(first, number), Rows(second, cap), pairs):
        return False
    return is_word_for(first, second, cap, number, word)
