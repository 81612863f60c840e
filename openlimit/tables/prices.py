"""The prices of written words in a meter.

The *prices* of a word have a dict for each state: from the states to which
runs on the word lead from it, to the least sums of costs of such runs.
"""

from openlimit.machines.machines import MAX_COST
from openlimit.machines.needs import row_after

# A multiple of all numbers from 1 to 8, the lengths of the shortest loops in a machine.
ROUND = 840


def no_prices(size):
    """Return the prices of the empty word."""
    return [{state: 0} for state in range(size)]


def costs_behind_word(moves, costs, word):
    """Return the list of the least sums of costs behind the word; moves has the steps of each letter of a meter."""
    # No cap: this is more than any of the sums.
    cap = max([cost for cost in costs if cost is not None], default=0) + MAX_COST * len(word)
    return row_after(moves, cap, costs, word)


def costs_behind(costs, prices):
    """Return the list of the least sums of costs behind a word with these prices."""
    found = [None] * len(costs)
    for cost, row in zip(costs, prices):
        if cost is not None:
            for goal, further in row.items():
                if found[goal] is None or cost + further < found[goal]:
                    found[goal] = cost + further
    return found


def word_prices(moves, size, word):
    """Return the prices of the word."""
    found = []
    for start in range(size):
        costs = costs_behind_word(moves, [0 if state == start else None for state in range(size)], word)
        found.append({state: cost for state, cost in enumerate(costs) if cost is not None})
    return found


def joined_prices(first, second):
    """Return the prices of one word followed by another one."""
    found = []
    for row in first:
        best = {}
        for middle, cost in row.items():
            for goal, further in second[middle].items():
                total = cost + further
                if goal not in best or total < best[goal]:
                    best[goal] = total
        found.append(best)
    return found


def doubled_prices(prices, times):
    """Return the list of the prices of 1, 2, 4, .. repeats, as far as they are needed for so many."""
    found = [prices]
    many = 2
    while many <= times:
        found.append(joined_prices(found[-1], found[-1]))
        many = 2 * many
    return found


def few_repeats(doubled, times):
    """Return the prices of so many repeats; doubled has those of 1, 2, 4, .. of them."""
    found = no_prices(len(doubled[0]))
    for place, prices in enumerate(doubled):
        if (times >> place) & 1:
            found = joined_prices(found, prices)
    return found


def repeated_prices(prices, times):
    """Return the prices of a word that is repeated, as often as you like."""
    if times < 3 * ROUND:
        return few_repeats(doubled_prices(prices, times), times)
    # A best run on so many repeats can be changed, without a greater price, so that it goes through one and the same
    # loop of at most eight repeats all the time, but for less than 64 repeats at the beginning and at the end: of
    # eight other loops some together have a length that is a multiple of that of the cheapest loop, and give way to
    # it. So 840 repeats after the beginning it is in some state to which it returns after each further 840.
    doubled = doubled_prices(prices, ROUND)
    loops = few_repeats(doubled, ROUND)
    rounds = times // ROUND - 2
    begin = []
    for row in loops:
        begin.append({
            state: cost + rounds * loops[state][state] for state, cost in row.items() if state in loops[state]
        })
    return joined_prices(begin, joined_prices(loops, few_repeats(doubled, times % ROUND)))
